import PyProof.Rows.All
import Wide.All
import OpenK.AllK
import Wide.FinOn
import Lean
import PyProof.EqAt
import PyProof.EqKinds
import PyProof.TupleCall
import PySem.Challenge.RW_coverroll_k81_all_kinds_parted
set_option tactic.hygienic false
set_option Elab.async false
set_option linter.all false
set_option maxRecDepth 100000
set_option maxHeartbeats 4000000
local macro_rules|`(tactic|ac_nf)=>`(tactic|decide +kernel)
local macro_rules|`(tactic|injections)=>`(tactic|exact ⟨rfl,rfl,rfl,by decide +kernel,rfl,by decide +kernel,by decide +kernel⟩)
set_option hygiene false in
local macro_rules|`(tactic|bv_omega)=>`(tactic|refine F.ok sc (fun vs H Q E h=>?_) (fun cdv A outer s H vs Q E hr h=>?_))
set_option hygiene false in
local macro_rules|`(tactic|ac_rfl)=>`(tactic|refine (vE rfl (vI rfl rfl (SqT.of hp) rfl ⟨rfl,vE rfl (dF (sne (by decide +kernel)) ?_)⟩)))
open List renaming length_map -> zAa, size_toArray -> zAd, length_append -> zAe, getElem?_eq_getElem -> zAf, length_cons -> zAj, mem_singleton -> zAk, getElem?_map -> zAl, mem_cons_of_mem -> zAm, map_append -> zAn, mem_cons_self -> zAo, getElem?_eq_some_iff -> zAp, mem_cons -> zAq, mem_of_getElem? -> zAu, map_cons -> zAw, take_length -> zAz, mem_map -> zAA, length_take -> zAB, replicate -> zAD, mem_append_right -> zAI, nodup_iff_pairwise_ne -> zAJ, getElem?_cons_succ -> zAL, range -> zAM, length_range -> zAP, getElem?_append_right -> zAQ, getD_eq_getElem?_getD -> zAR, length_replicate -> zAS, append_nil -> zAT, mem_append -> zAW, take_zero -> zAY, length_filter_le -> zAZ, getElem?_append_left -> zBa, filter_cons_of_neg -> zBd, getElem_mem -> zBg, getElem_of_mem -> zBh, flatten_cons -> zBi, filter_cons_of_pos -> zBl, pairwise_map -> zBo, nodup_cons -> zBp, filter_nil -> zBq, map_nil -> zBr, pairwise_cons -> zBs, mem_range -> zBz, filter_append -> zBC, mem_append_left -> zBE, lookup_cons -> zBH, all_eq_true -> zBI, getElem?_eq_none -> zBK, any_cons -> zBL, append_assoc -> zBM, pairwise_iff_getElem -> zBN, replicate_succ -> zBP, all_cons -> zBQ, find?_cons -> zBR, getElem?_toArray -> zBS, getElem_toArray -> zBU, not_mem_nil -> zBW, lookup -> zBX, filterMap_cons -> zBY, getElem?_range -> zBZ, flatten_append -> zCa, mem_filter -> zCb, getElem?_zip_eq_some -> zCe, length_erase_of_mem -> zCh, eq_of_mem_replicate -> zCi, length_pos_of_mem -> zCl, length_drop -> zCm
open PySem.W renaming Frag -> zAb, findIn -> zAh, mg_of -> zAF, nsIn -> zAH, mg_none_of -> zAN, emptyDict -> zAO, fnOf -> zAV, keepIn -> zAX, instObj -> zBb, kia_one -> zBk, codeIn -> zBu, kitOne -> zBG, plainGet -> zBT, makesIn -> zCc, isFn -> zCf, hasDictIn -> zCk
open PySem.Heap renaming get?_push_of_some -> zAc, lt_size -> zAr, get?_push_size -> zAv, get?_update_other -> zBf, get?_update_self -> zBj, SameBut -> zBm, size_push -> zBt, size_update -> zCn
open Nat renaming le_refl -> zAg, ne_of_lt -> zAs, lt_of_lt_of_le -> zAt, zero_le -> zAC, le_trans -> zAE, ne_of_gt -> zAG, lt_succ_of_lt -> zAU, not_lt_zero -> zBc, le_succ -> zBn, mul_le_mul -> zBv, lt_irrefl -> zBx, lt_succ_self -> zBy, le_of_lt -> zBD, lt_or_ge -> zBJ, succ_mul -> zBO, le_add_right -> zBV, lt_of_le_of_lt -> zCg
open Bool renaming false_ne_true -> zAi, and_eq_true -> zBe, false_eq_true -> zBA, eq_iff_iff -> zBF, and_false -> zCj, noConfusion -> zCo
open Array renaming length_toList -> zAx, getElem?_eq_getElem -> zAK, getElem?_eq_none -> zBw, getElem?_toList -> zBB
open Option renaming map_eq_some_iff -> zAy, map_some -> zCd
open PySem renaming wpAny_bind -> zCp, wpAny_pure -> zCq, sizeLine_eq -> zCr, bootBuiltins -> zCs, FuncData -> zCt, mainGlobals -> zCu
namespace L2
open PySem PySem.Spec PyProof.Rows
abbrev Fc:=Sum Int Str
def Sf:Fc->Value->Bool
 | .inl k,v=>Value.isInt k v
 | .inr x,v=>Value.isStrOf x v
def HC (w:World):Fc->Int
 | .inl k=>hashInt k
 | .inr x=>hashStr w x
theorem Cz:∀ {k:Fc} {v:Value},Sf k v=true->(∃ i t,k=Sum.inl i/\v=Value.int i t)\/(∃ x t,k=Sum.inr x/\v=Value.str x t)
 | .inl i,v,h=>by
  obtain⟨t,e⟩:=Value.isInt_shape (k:=i) (v:=v) h;exact .inl ⟨i,t,rfl,e⟩
 | .inr x,v,h=>by
  obtain⟨t,e⟩:=Value.isStrOf_shape (x:=x) (v:=v) h;exact .inr ⟨x,t,rfl,e⟩
theorem J1 (i:Int) (t:Tok):Sf (.inl i) (.int i t)=true:=by simp [Sf,Value.isInt]
theorem F0 (x:Str) (t:Tok):Sf (.inr x) (.str x t)=true:=by simp [Sf,Value.isStrOf]
theorem DI (a b:Int):decide ((Sum.inl a:Fc)=Sum.inl b)=(a==b):=by
 by_cases e:a=b
 ·subst e; simp
 ·have h:¬ (Sum.inl a:Fc)=Sum.inl b:=fun q=>e (Sum.inl.inj q)
  rw[decide_eq_false h];exact (beq_eq_false_iff_ne.mpr e).symm
theorem CG (a b:Str):decide ((Sum.inr a:Fc)=Sum.inr b)=decide (a=b):=by
 by_cases e:a=b
 ·subst e; simp
 ·have h:¬ (Sum.inr a:Fc)=Sum.inr b:=fun q=>e (Sum.inr.inj q)
  rw[decide_eq_false h,decide_eq_false e]
theorem DM (a:Int) (b:Str):decide ((Sum.inl a:Fc)=Sum.inr b)=false:=decide_eq_false (fun q=>nomatch q)
theorem DU (a:Str) (b:Int):decide ((Sum.inr a:Fc)=Sum.inl b)=false:=decide_eq_false (fun q=>nomatch q)
def Dr (prog:Program) (w:World):PySem.KeyKind prog w Fc where
 is:=Sf
 hash:=HC w
 inj:=fun v a b ha hb=>by
  rcases Cz ha with ⟨i,t,rfl,rfl⟩ | ⟨x,t,rfl,rfl⟩
  ·rcases Cz hb with ⟨j,u,rfl,e⟩ | ⟨y,u,rfl,e⟩
   ·injection e with e1 _; rw[e1]
   ·exact nomatch e
  ·rcases Cz hb with ⟨j,u,rfl,e⟩ | ⟨y,u,rfl,e⟩
   ·exact nomatch e
   ·injection e with e1 _; rw[e1]
 byValue:=fun k v h=>by
  rcases Cz h with ⟨i,t,rfl,rfl⟩ | ⟨x,t,rfl,rfl⟩ <;> rfl
 pyHash:=fun hv h=>by
  rcases Cz hv with ⟨i,t,rfl,rfl⟩ | ⟨x,t,rfl,rfl⟩
  ·exact wpAny_pyHash_int h
  ·exact wpAny_pyHash_str h
 eqBool:=fun hu hv h=>by
  rcases Cz hu with ⟨i,t,rfl,rfl⟩ | ⟨x,t,rfl,rfl⟩
  ·rcases Cz hv with ⟨j,u,rfl,rfl⟩ | ⟨y,u,rfl,rfl⟩
   ·rw[DI] at h; exact wpAny_eqBool_int h
   ·rw[DM] at h; exact SeqAt.EqAt.int_str i t y u _ _ _ _ h
  ·rcases Cz hv with ⟨j,u,rfl,rfl⟩ | ⟨y,u,rfl,rfl⟩
   ·rw[DU] at h; exact SeqAt.EqAt.str_int x t j u _ _ _ _ h
   ·rw[CG] at h; exact wpAny_eqBool_str h
 «strs» := fun k x t v h=>by
  rcases Cz h with ⟨i,u,rfl,e⟩ | ⟨y,u,rfl,e⟩
  ·exact nomatch e
  ·injection e with e1 _
   subst e1;cases v <;> rfl
theorem Vw (prog:Program) (w:World) (i:Int) (t:Tok):(Dr prog w).is (.inl i) (.int i t)=true:=J1 i t
theorem Ws (prog:Program) (w:World) (x:Str) (t:Tok):(Dr prog w).is (.inr x) (.str x t)=true:=F0 x t
inductive V where
 | non | bl (b:Bool) | int (i:Int) | str (x:Str) | byt (b:Array UInt8) | flt (b:UInt64) | ref (a:Addr) | ty (n:String)
 deriving DecidableEq
def RelV:V->Value->Prop
 | .non,u=>u=Value.none
 | .bl b,u=>u=Value.bool b
 | .int i,u=>∃ t,u=Value.int i t
 | .str x,u=>∃ t,u=Value.str x t
 | .byt b,u=>∃ t,u=Value.bytes b t
 | .flt b,u=>∃ t,u=Value.float b t
 | .ref a,u=>u=Value.ref a
 | .ty n,u=>u=Value.type n
abbrev Vals:List V->List Value->Prop:=Paired RelV
theorem Vals.length {xs:List V} {us:List Value} (r:Vals xs us):xs.length=us.length:=Paired.length r
theorem Vals.get:∀ {xs:List V} {us:List Value} {i:Nat} {x:V},Vals xs us->xs[i]?=some x->∃ u,us[i]?=some u/\RelV x u
 | _,_,_,_,.nil,e=>by simp at e
 | _,_,0,_,.cons r _,e=>by simp at e; subst e; exact⟨_,rfl,r⟩
 | _,_,i+1,x,.cons _ t,e=>by
  obtain⟨u,h1,h2⟩:=Vals.get (i:=i) (x:=x) t (by simpa using e);exact⟨u,by simpa using h1,h2⟩
theorem Vals.set {x:V} {u:Value} (r:RelV x u):∀ {xs:List V} {us:List Value} (i:Nat),Vals xs us->Vals (xs.set i x) (us.set i u)
 | _,_,_,.nil=>.nil
 | _,_,0,.cons _ t=>.cons r t
 | _,_,i+1,.cons q t=>.cons q (Vals.set r i t)
theorem Vals.append:∀ {xs ys:List V} {us ws:List Value},Vals xs us->Vals ys ws->Vals (xs++ys) (us++ws)
 | _,_,_,_,.nil,s=>s
 | _,_,_,_,.cons r t,s=>.cons r (Vals.append t s)
theorem Vals.take:∀ {xs:List V} {us:List Value} (n:Nat),Vals xs us->Vals (xs.take n) (us.take n)
 | _,_,0,_=>.nil
 | _,_,_+1,.nil=>.nil
 | _,_,n+1,.cons r t=>.cons r (Vals.take n t)
theorem Vals.drop:∀ {xs:List V} {us:List Value} (n:Nat),Vals xs us->Vals (xs.drop n) (us.drop n)
 | _,_,0,r=>r
 | _,_,_+1,.nil=>.nil
 | _,_,n+1,.cons _ t=>Vals.drop n t
def RelO:Option V->Option Value->Prop
 | some v,some u=>RelV v u
 | none,none=>True
 | _,_=>False
def KV {κ:Type}:List (κ×V)->List (κ×Value)->Prop:=Paired fun (p:κ×V) (q:κ×Value)=>p.1=q.1/\RelV p.2 q.2
def kV:Fc->V
 | .inl i=>.int i
 | .inr x=>.str x
inductive HO where
 | lst (xs:List V)
 | tup (xs:List V)
 | dK (kvs:List (Fc×V)) | dT (kvs:List (List Fc×V))
 | set (S:Int->Bool) (n:Nat)
 | ins (C dx:Addr) (fs:List (Str×V))
 | own (x:Addr)
 | xd (fs:List (Str×V))
 | met (f x:Addr)
 | rng (lo hi:Int)
 | frz (o:Obj) (u:HO)
 | tbl (ps:Array Value)
 | ext (φ:Heap->Prop)
abbrev Hp:=Addr->Option HO
def upd (H:Hp) (a:Addr) (o:HO):Hp:=fun b=>if b=a then some o else H b
theorem Ab {H:Hp} {a:Addr} {o:HO}:upd H a o a=some o:=by unfold upd; rw[if_pos rfl]
theorem Ar {H:Hp} {a b:Addr} {o:HO} (h:b≠a):upd H a o b=H b:=by unfold upd; rw[if_neg h]
theorem Wp {H:Hp} {a b:Addr} {o u:HO} (h:H a=some o) (h':H b=some u) (d:o≠u):a≠b:=by
 intro e; subst e; rw[h] at h'; exact d (Option.some.inj h')
theorem At {H:Hp} {a b:Addr} {o:HO} (h:H a=some o) (h':H b=none):a≠b:=by
 intro e; subst e; rw[h] at h'; cases h'
section
variable (P:Program) (w:World)
def ObjOk (H:Hp) (h:Heap) (a:Addr):HO->Prop
 | .lst xs=>xs.length<=sizeLine/\∃ (its:List Value) (n:Nat),Vals xs its/\h.get? a=some { cls:=.type "list",data:=.seq its.toArray n }
 | .tup xs=>xs.length<=sizeLine/\∃ its:List Value,Vals xs its/\IsTup h a its.toArray
 | .dK kvs=>kvs.length<=sizeLine/\(a==sysModules)=false/\∃ vs,KV kvs vs/\h.DictOf (Dr P w) a vs
 | .dT kvs=>kvs.length<=sizeLine/\(a==sysModules)=false/\∃ xs:List (List Fc×Addr×Value),
   Paired (fun (p:List Fc×V) (q:List Fc×Addr×Value)=>p.1=q.1/\H q.2.1=some (.tup (p.1.map kV))/\RelV p.2 q.2.2) kvs xs /\
   ∃ o es ep,h.get? a=some o/\o.ExactDict/\o.data = .dict es ep/\es.toList=xs.map (entryOfKey (tupleKind (Dr P w)))/\(xs.map (·.1)).Nodup
 | .set S n=>h.SetOf (intKind P w) a S n
 | .ins C dx fs=>H dx=some (.own a)/\fs.length<=1000/\dx≠a/\h.get? a=some (zBb C dx) /\
   ∃ mA,h.Ns1 dx mA/\(∀ f,RelO (fs.lookup f) (mA f))/\PySem.Within mA (fs.map (·.1))
 | .own _=>∃ o,h.get? a=some o
 | .xd fs=>∃ mA,h.Ns1 a mA/\∀ f,RelO (fs.lookup f) (mA f)
 | .rng lo hi=>∃ t u v,h.get? a=some { cls:=.type "range",data:=.fields #[.int lo t,.int hi u,.int 1 v] }
 | .frz o u=>h.get? a=some o/\ObjOk H h a u
 | .tbl ps=>h.get? a=some { cls:=.none,data:=.fields ps }
 | .met f x=>h.get? a=some (PySem.W.methodObj (.ref f) (.ref x))
 | .ext φ=>φ h/\(∃ o,h.get? a=some o)/\∀ h1 h2:Heap,φ h1->(∀ o,h1.get? a=some o->h2.get? a=some o)->φ h2
def HOk (H:Hp) (h:Heap):Prop:=∀ a o,H a=some o->ObjOk P w H h a o
end
section
variable {P:Program} {w:World} {H H':Hp} {h h':Heap} {a:Addr} {o:HO}
theorem ObjOk.lt (x:ObjOk P w H h a o):a<h.objs.size:=by
 cases o with
 | lst xs=>obtain⟨_,_,_,_,e⟩:=x; exact zAr e
 | tup xs=>obtain⟨_,_,_,p⟩:=x; exact p.lt
 | dK kvs=>obtain⟨_,_,_,_,o,_,_,e,_⟩:=x; exact zAr e
 | dT kvs=>obtain⟨_,_,_,_,o,_,_,e,_⟩:=x; exact zAr e
 | set S n=>obtain⟨o,_,_,_,e,_⟩:=x; exact zAr e
 | ins C dx fs=>obtain⟨_,_,_,e,_⟩:=x; exact zAr e
 | own y=>obtain⟨_,e⟩:=x; exact zAr e
 | xd fs=>obtain⟨_,⟨_,_,_,e,_⟩,_⟩:=x; exact zAr e
 | rng lo hi=>obtain⟨_,_,_,e⟩:=x; exact zAr e
 | frz ob u=>obtain⟨e,_⟩:=x; exact zAr e
 | tbl ps=>exact zAr (show h.get? a=some _ from x)
 | met f y=>exact zAr (show h.get? a=some _ from x)
 | ext φ=>obtain⟨_,⟨_,e⟩,_⟩:=x; exact zAr e
theorem Paired.mapP {α β:Type} {F G:α->β->Prop}:∀ {l₁ : List α} {l₂ : List β},Paired F l₁ l₂ -> (∀ a b,F a b->G a b)->Paired G l₁ l₂
 | _,_,.nil,_=>.nil
 | _,_,.cons r t,f=>.cons (f _ _ r) (Paired.mapP t f)
theorem ObjOk.stay (x:ObjOk P w H h a o) (k:∀ b u,(b=a\/H b=some (.own a))->h.get? b=some u->h'.get? b=some u)
  (ho:∀ b,H b=some (.own a)->H' b=some (.own a)) (ht:∀ b xs,H b=some (.tup xs)->H' b=some (.tup xs)):ObjOk P w H' h' a o:=by
 induction o with
 | lst xs=>obtain⟨z,its,n,r,e⟩:=x; exact⟨z,its,n,r,k _ _ (.inl rfl) e⟩
 | tup xs=>obtain⟨z,its,r,ob,e,c⟩:=x; exact⟨z,its,r,ob,k _ _ (.inl rfl) e,c⟩
 | dK kvs=>obtain⟨z,y,vs,r,ob,es,ep,e,c⟩:=x; exact⟨z,y,vs,r,ob,es,ep,k _ _ (.inl rfl) e,c⟩
 | dT kvs=>
  obtain⟨z,y,xs,r,ob,es,ep,e,c⟩:=x;exact⟨z,y,xs,Paired.mapP r fun p q z=>⟨z.1,ht _ _ z.2.1,z.2.2⟩,ob,es,ep,k _ _ (.inl rfl) e,c⟩
 | set S n=>obtain⟨ob,es,ep,t,e,c⟩:=x; exact⟨ob,es,ep,t,k _ _ (.inl rfl) e,c⟩
 | ins C dx fs=>
  obtain⟨d,z,ne,e,mA,⟨od,es,ep,e2,c⟩,r⟩:=x;exact⟨ho _ d,z,ne,k _ _ (.inl rfl) e,mA,⟨od,es,ep,k _ _ (.inr d) e2,c⟩,r⟩
 | own y=>obtain⟨ob,e⟩:=x; exact⟨ob,k _ _ (.inl rfl) e⟩
 | xd fs=>obtain⟨mA,⟨od,es,ep,e,c⟩,r⟩:=x; exact⟨mA,⟨od,es,ep,k _ _ (.inl rfl) e,c⟩,r⟩
 | rng lo hi=>obtain⟨t,u,v,e⟩:=x; exact⟨t,u,v,k _ _ (.inl rfl) e⟩
 | frz ob u ih=>obtain⟨e,q⟩:=x; exact⟨k _ _ (.inl rfl) e,ih q⟩
 | tbl ps=>
  have e:h.get? a=some { cls:=.none,data:=.fields ps }:=x;show h'.get? a=some { cls:=.none,data:=.fields ps };exact k a _ (.inl rfl) e
 | met f y=>
  have e:h.get? a=some (PySem.W.methodObj (.ref f) (.ref y)):=x;show h'.get? a=some (PySem.W.methodObj (.ref f) (.ref y));exact k a _ (.inl rfl) e
 | ext φ=>obtain⟨p,⟨o,e⟩,st⟩:=x; exact⟨st _ _ p fun o q=>k _ _ (.inl rfl) q,⟨o,k _ _ (.inl rfl) e⟩,st⟩
theorem HOk.lt (x:HOk P w H h) (e:H a=some o):a<h.objs.size:=(x a o e).lt
theorem HOk.fresh (x:HOk P w H h) (e:h.objs.size<=a):H a=none:=by
 cases q:H a with
 | none=>rfl
 | some u=>exact absurd (zAt (x.lt q) e) (zBx _)
theorem HOk.kept (x:HOk P w H h) (k:∀ b u,h.get? b=some u->h'.get? b=some u):HOk P w H h':=fun a o e=>
 (x a o e).stay (fun b u _ q=>k b u q) (fun _ q=>q) fun _ _ q=>q
theorem HOk.laid (x:HOk P w H h) (k:∀ b u,h.get? b=some u->h'.get? b=some u) (hp:h.objs.size<=a) (new:ObjOk P w (upd H a o) h' a o):HOk P w (upd H a o) h':=fun b u e=>by
 have hn:=x.fresh hp;by_cases hb:b=a
 ·subst hb; rw[Ab] at e; cases e; exact new
 ·rw[Ar hb] at e
  exact (x b u e).stay (fun c v _ q=>k c v q) (fun c q=>by rw[Ar (At q hn)]; exact q) fun c xs q=>by rw[Ar (At q hn)]; exact q
end
def Rd (H:Hp) (a:Addr) (u:HO):Prop:=H a=some u\/∃ o,H a=some (.frz o u)
theorem Rd.ok {P:Program} {w:World} {H:Hp} {h:Heap} {a:Addr} {u:HO} (r:Rd H a u) (x:HOk P w H h):ObjOk P w H h a u:=by
 rcases r with r | ⟨o,r⟩
 ·exact x a u r
 ·obtain⟨_,q⟩:=x a _ r
  exact q
def FN:Option HO->Prop
 | some (.lst _)=>True
 | some (.dK _)=>True
 | some (.dT _)=>True
 | some (.set _ _)=>True
 | some (.ins _ _ _)=>True
 | some (.ext _)=>True
 | _=>False
section
variable {P:Program} {w:World} {H:Hp} {h h':Heap} {x e:Addr} {o':HO}
theorem HOk.write (ok:HOk P w H h) (mu:FN (H x)) (he:e=x\/H e=some (.own x)) (k:∀ b u,b≠e->h.get? b=some u->h'.get? b=some u) (heo:∃ u,h'.get? e=some u)
  (new:ObjOk P w (upd H x o') h' x o'):HOk P w (upd H x o') h':=fun b u q=>by
 have nown:∀ c y,H c=some (.own y)->c≠x:=fun c y r z=>by subst z; rw[r] at mu; exact mu
 have ntup:∀ c xs,H c=some (.tup xs)->c≠x:=fun c xs r z=>by subst z; rw[r] at mu; exact mu
 by_cases hb:b=x
 ·subst hb; rw[Ab] at q; cases q; exact new
 ·rw[Ar hb] at q
  by_cases hbe:b=e
  ·have q':H b=some (.own x):=by
    rcases he with z | z
    ·exact absurd (hbe.trans z) hb
    ·rw[hbe]; exact z
   rw[q] at q'; cases q';obtain⟨v,hv⟩:=heo;exact⟨v,by rw[hbe]; exact hv⟩
  ·refine (ok b u q).stay (fun c v hc r=>k c v ?_ r) (fun c r=>by rw[Ar (nown c b r)]; exact r) fun c xs r=>by rw[Ar (ntup c xs r)]; exact r
   rcases hc with rfl | hc
   ·exact hbe
   ·rintro rfl
    rcases he with z | z
    ·exact nown c b hc z
    ·rw[hc] at z; cases z; exact hb rfl
end
structure Un (fs ex:List Addr) (H H':Hp) (h h':Heap):Prop where
 keep:∀ b o,h.get? b=some o->H b=none->b∉fs->b∉ex->h'.get? b=some o
 slot:∀ b o,h.get? b=some o->H b=none->b∈fs->b∉ex->∃ sl,h'.get? b=some { o with slots:=sl }
 free:∀ b o,h.get? b=some o->H b=none->b∉ex->H' b=none
 there:∀ b o,h.get? b=some o->b∉ex->∃ o',h'.get? b=some o'
 tups:∀ b xs,H b=some (.tup xs)->H' b=some (.tup xs)
 frzs:∀ b o u,H b=some (.frz o u)->H' b=some (.frz o u)
 tbls:∀ b ps,H b=some (.tbl ps)->∃ more,H' b=some (.tbl (ps++more))
section
variable {fs fs' ex ex':List Addr} {H H1 H2:Hp} {h h1 h2 h':Heap} {a x e:Addr} {o:HO}
theorem Un.any (u:Un fs ex H H1 h h1) {b:Addr} {ob:Obj} (q:h.get? b=some ob) (n:H b=none) (hx:b∉ex):∃ sl,h1.get? b=some { ob with slots:=sl }:=by
 by_cases hb:b∈fs
 ·exact u.slot b ob q n hb hx
 ·exact⟨ob.slots,u.keep b ob q n hb hx⟩
theorem Un.kept (k:∀ b u,h.get? b=some u->h'.get? b=some u):Un fs ex H H h h':=
 ⟨fun b ob q _ _ _=>k b ob q,fun b ob q _ _ _=>⟨ob.slots,k b ob q⟩,fun _ _ _ n _=>n,fun b ob q _=>⟨ob,k b ob q⟩,fun _ _ q=>q,fun _ _ _ q=>q,fun _ ps q=>⟨#[],by rw[q]; simp⟩⟩
theorem Un.refl:Un fs ex H H h h:=Un.kept fun _ _ q=>q
theorem Un.laid (k:∀ b u,h.get? b=some u->h'.get? b=some u) (hp:h.objs.size<=a) (hn:H a=none):Un fs ex H (upd H a o) h h' where
 keep:=fun b u q _ _ _=>k b u q
 slot:=fun b u q _ _ _=>⟨u.slots,k b u q⟩
 free:=fun b u q n _=>by rw[Ar (zAs (zAt (zAr q) hp))]; exact n
 there:=fun b u q _=>⟨u,k b u q⟩
 tups:=fun b xs q=>by rw[Ar (At q hn)]; exact q
 frzs:=fun b u xs q=>by rw[Ar (At q hn)]; exact q
 tbls:=fun b ps q=>⟨#[],by rw[Ar (At q hn),q]; simp⟩
theorem Un.write (mu:FN (H x)) (he:e=x\/H e=some (.own x)) (k:∀ b u,b≠e->h.get? b=some u->h'.get? b=some u) (heo:∃ u,h'.get? e=some u):Un fs ex H (upd H x o) h h':=by
 have hx:∀ b,H b=none->b≠x:=fun b n z=>by subst z; rw[n] at mu; exact mu
 have hb:∀ b,H b=none->b≠e:=fun b n z=>by
  subst z;rcases he with r | r
  ·exact hx b n r
  ·rw[n] at r; cases r
 have hm:∀ b u,H b=some u->¬ FN (some u)->b≠x:=fun b u q nm z=>by subst z; rw[q] at mu; exact nm mu
 refine⟨fun b u q n _ _=>k b u (hb b n) q,fun b u q n _ _=>⟨u.slots,k b u (hb b n) q⟩,fun b u q n _=>by rw[Ar (hx b n)]; exact n,fun b u q _=>?_,
  fun b xs q=>by rw[Ar (hm b _ q fun z=>z)]; exact q,fun b u xs q=>by rw[Ar (hm b _ q fun z=>z)]; exact q,fun b ps q=>⟨#[],by rw[Ar (hm b _ q fun z=>z),q]; simp⟩⟩
 by_cases hbe:b=e
 ·subst hbe; exact heo
 ·exact⟨u,k b u hbe q⟩
end
def GF (h:Heap) (H:Hp):List Addr:=(zAM h.objs.size).filter fun a=>(H a).isSome
def Uy (h:Heap) (H:Hp):Heap:=PySem.W.hideAll h (GF h H)
theorem L7 (h:Heap) (H:Hp):(Uy h H).objs.size=h.objs.size:=PySem.W.hideAll_size _ _
theorem P0 {h:Heap} {H:Hp} {b:Addr} {o:Obj} (e:h.get? b=some o) (n:H b=none):(Uy h H).get? b=some o:=
 PySem.W.hideAll_get _ e fun hm=>by
  have q:(H b).isSome=true:=(zCb.mp hm).2;rw[n] at q; simp at q
theorem Z8 {h:Heap} {H:Hp} {b:Addr} {o:Obj} (e:(Uy h H).get? b=some o):h.get? b=some o/\H b=none:=by
 have e':h.get? b=some o:=PySem.W.of_hideAll (GF h H) e;refine⟨e',?_⟩;cases q:H b with
 | none=>rfl
 | some x=>
  have hm:b∈GF h H:=zCb.mpr ⟨zBz.mpr (zAr e'),by simp [q]⟩;have z:(Uy h H).get? b=none:=PySem.W.hideAll_none (GF h H) hm;rw[z] at e; cases e
structure Mod (K:zAb) (mg:Str->Option Value) (base:Heap):Prop where
 kin:K.In base
 glob:base.Ns zCu mg
 blt:∃ mb,base.Ns builtinsNs mb/\∀ x:Str,x ≠ "__name__" -> mb x=zCs x
 nolimit:base.NoLimit
/-- the context: a def's body (or a comprehension's block) running. base: fixed through the whole law; s₀,H₀: the entry; outer: the frames whose slots others may change (a def's callers); stack: all frames that run;
   ex: iterators that were made ahead of the entry and are walked here (a comprehension's); fn: the names whose cells were made at the entry (a def: all; a comprehension's block: its own); calm: not within an except suite; pn: pins that every state bears; xe: what is wanted of an exception that leaves the code -/
structure Cx where
 prog:Program
 w:World
 K:zAb
 mg:Str->Option Value
 base:Heap
 A:Around
 N:List Str
 s₀ : Shared
 H₀ : Hp
 env:Env
 outer:List Env
 stack:List Env
 ex:List Addr
 fn:Str->Bool
 calm:Bool
 pn:List (Addr×Obj)
 xe:Value->Shared->Prop
def E4 (l:List Env):List Addr:=l.filterMap (·.frame)
abbrev Cx.fs (X:Cx):List Addr:=E4 X.outer
def GU (sc:Scope) (x:Str):Prop:=sc.names.lookup x=some .local\/sc.names.lookup x=some .cell\/sc.names.lookup x=some .free
def GC (sc:Scope) (x:Str):Prop:=sc.names.lookup x=some .local\/sc.names.lookup x=some .cell
def GR (env:Env) (h:Heap) (m:Str->Option Value) (x:Str) (u:Value):Prop:=
 (env.kindOf x=some .local/\m x=some u)\/((env.kindOf x=some .cell\/env.kindOf x=some .free)/\∃ c,env.cells.lookup x=some c/\h.IsCell c (some u))
structure Cx.Ok (X:Cx):Prop where
 mod:Mod X.K X.mg X.base
 kind:X.env.scope.kind = .function
 glob:X.env.globals=zCu
 blt:X.env.builtins=builtinsNs
 above:X.s₀.heap.objs.size<=X.env.locals
 inj:∀ x y c,X.env.cells.lookup x=some c->X.env.cells.lookup y=some c->x=y
 has:∀ x,(X.env.kindOf x=some .cell\/X.env.kindOf x=some .free)->∃ c,X.env.cells.lookup x=some c
 cab:∀ x c,X.fn x=true->X.env.cells.lookup x=some c->X.s₀.heap.objs.size<=c
 hd:X.calm=true->X.A.handled=none
 frames:X.A.frames=some X.stack
 stk:X.stack=X.outer\/(X.stack=X.env::X.outer/\X.env.frame=some X.env.locals)
 exf:∀ b∈X.ex,b≠X.env.locals/\∀ x c,X.env.cells.lookup x=some c->c≠b
 bs:∀ b o,X.base.get? b=some o->X.s₀.heap.get? b=some o/\X.H₀ b=none
 bsz:X.base.objs.size<=X.s₀.heap.objs.size
 noex:∀ b o,X.base.get? b=some o->b∉X.ex
 exfs:∀ b∈X.ex,b∉X.fs
 funs:X.s₀.heap.FunFrames X.base X.outer
 frf:∀ b∈X.fs,X.H₀ b=none
structure Inv (X:Cx) (pins:List (Addr×Obj)) (σ:List (Option V)) (H:Hp) (s:Shared):Prop where
 ok:X.Ok
 os:s.os=X.s₀.os
 bare:AllBare s.gens
 base:Un X.fs X.ex X.H₀ H X.s₀.heap s.heap
 loc:∃ m,s.heap.Ns X.env.locals m/\∀ (i:Nat) (x:Str) (v:V),X.N[i]?=some x->σ[i]?=some (some v)->GU X.env.scope x->∃ u,RelV v u/\GR X.env s.heap m x u
 cell:∀ x c,X.env.cells.lookup x=some c->∃ v,s.heap.IsCell c v
 free:H X.env.locals=none
 freeC:∀ x c,X.env.cells.lookup x=some c->H c=none
 pin:∀ p∈X.pn++pins,s.heap.get? p.1=some p.2/\H p.1=none/\p.1≠X.env.locals/\p.1∉X.fs/\∀ v,p.2.data ≠ .cell v
 hok:HOk X.prog X.w H s.heap
 len:σ.length=X.N.length
section
variable {X:Cx} {pins:List (Addr×Obj)} {σ:List (Option V)} {H H':Hp} {s:Shared} {h':Heap}
theorem Cx.Ok.nofr (ok:X.Ok) {b:Addr} {o:Obj} (e:X.base.get? b=some o):b∉X.fs:=fun hb=>by
 have:=(ok.funs.mem hb).1;rw[e] at this; cases this
theorem Inv.bs (I:Inv X pins σ H s):∀ b o,X.base.get? b=some o->s.heap.get? b=some o/\H b=none:=fun b o e=>
 ⟨I.base.keep b o (I.ok.bs b o e).1 (I.ok.bs b o e).2 (I.ok.nofr e) (I.ok.noex b o e),I.base.free b o (I.ok.bs b o e).1 (I.ok.bs b o e).2 (I.ok.noex b o e)⟩
theorem Inv.bk (I:Inv X pins σ H s):∀ b o,X.base.get? b=some o->s.heap.get? b=some o:=fun b o e=>(I.bs b o e).1
theorem Inv.mod (I:Inv X pins σ H s):Mod X.K X.mg X.base:=I.ok.mod
theorem Inv.kIn (I:Inv X pins σ H s):X.K.In s.heap:=I.ok.mod.kin.keeps I.bk
theorem Inv.lt (I:Inv X pins σ H s):X.env.locals<s.heap.objs.size:=let ⟨_,hn,_⟩:=I.loc; hn.lt
theorem Inv.sz (I:Inv X pins σ H s):X.s₀.heap.objs.size<=s.heap.objs.size:=zAE I.ok.above (zBD I.lt)
theorem Inv.nofs (I:Inv X pins σ H s) {a:Addr} (h:s.heap.objs.size<=a):a∉X.fs:=fun hb=>by
 obtain⟨_,o,ho,_⟩:=I.ok.funs.mem hb;exact absurd (zAt (zAr ho) (zAE I.sz h)) (zBx _)
theorem Inv.cne (I:Inv X pins σ H s):∀ x c,X.env.cells.lookup x=some c->c≠X.env.locals:=fun x c e z=>by
 obtain⟨v,o,ho,hd⟩:=I.cell x c e;obtain⟨m,⟨o',es,ep,ho',hd',_⟩,_⟩:=I.loc;rw[z,ho'] at ho; cases ho; rw[hd'] at hd; cases hd
theorem Inv.funs (I:Inv X pins σ H s):s.heap.FunFrames X.base X.outer:=by
 have all:∀ (l:List Env),(∀ b∈E4 l,b∈X.fs)->X.s₀.heap.FunFrames X.base l->s.heap.FunFrames X.base l:=by
  intro l
  induction l with
  | nil=>intro _ _; trivial
  | cons env r ih=>
   intro hs hl;obtain⟨hk,⟨L,o,hf,hn,ho,hd⟩,hr⟩:=hl;have hL:L∈X.fs:=hs L (by unfold E4; rw[zBY,hf]; exact zAo);obtain⟨sl,e⟩:=I.base.slot L o ho (I.ok.frf L hL) hL fun z=>I.ok.exfs L z hL;exact⟨hk,⟨L,_,hf,hn,e,hd⟩,ih (fun b hb=>hs b (by unfold E4; rw[zBY,hf]; exact zAm _ hb)) hr⟩
 exact all X.outer (fun _ hb=>hb) I.ok.funs
theorem Inv.stack (I:Inv X pins σ H s):s.heap.FunFrames X.base X.stack:=by
 rcases I.ok.stk with e | ⟨e,hf⟩
 ·rw[e]; exact I.funs
 ·rw[e]
  obtain⟨m,hn,_⟩:=I.loc;refine .cons (by rw[I.ok.kind]; decide) hf hn ?_ I.funs;exact Heap.get?_none_of_le (zAE I.ok.bsz I.ok.above)
theorem Inv.stkSub (I:Inv X pins σ H s):∀ b∈E4 X.stack,b∈X.env.locals::X.fs:=fun b hb=>by
 rcases I.ok.stk with e | ⟨e,hf⟩
 ·rw[e] at hb; exact zAm _ hb
 ·rw[e] at hb
  unfold E4 at hb;rw[zBY,hf] at hb;exact hb
theorem Inv.stkFree (I:Inv X pins σ H s):∀ b∈E4 X.stack,H b=none:=fun b hb=>by
 rcases zAq.mp (I.stkSub b hb) with e | hb
 ·rw[e]; exact I.free
 ·obtain⟨_,o,ho,_⟩:=I.ok.funs.mem hb
  exact I.base.free b o ho (I.ok.frf b hb) fun z=>I.ok.exfs b z hb
theorem Inv.step {g':Array GenState} {t':Nat} {d':Drawn} {ch:List Addr} (I:Inv X pins σ H s)
  (hch:∀ b∈ch,(b∈X.ex\/X.s₀.heap.objs.size<=b)/\b≠X.env.locals/\(∀ x c,X.env.cells.lookup x=some c->c≠b)/\∀ p∈X.pn++pins,p.1≠b)
  (keep:∀ b o,b≠X.env.locals->b∉X.fs->b∉ch->s.heap.get? b=some o->H b=none->h'.get? b=some o)
  (slot:∀ b o,b≠X.env.locals->b∈X.fs->b∉ch->s.heap.get? b=some o->H b=none->∃ sl,h'.get? b=some { o with slots:=sl }) (free:∀ b o,b∉ch->s.heap.get? b=some o->H b=none->H' b=none)
  (there:∀ b o,b∉ch->s.heap.get? b=some o->∃ o',h'.get? b=some o')
  (tups:∀ b xs,H b=some (.tup xs)->H' b=some (.tup xs)) (frzs:∀ b o u,H b=some (.frz o u)->H' b=some (.frz o u)) (tbls:∀ b ps,H b=some (.tbl ps)->∃ more,H' b=some (.tbl (ps++more)))
  (ns:∀ m,s.heap.Ns X.env.locals m->h'.Ns X.env.locals m) (hok:HOk X.prog X.w H' h') (hg:AllBare g') :
  Inv X pins σ H' { s with heap:=h',gens:=g',drawn:=d',toks:=t' }:=by
 have neL:∀ b o,X.s₀.heap.get? b=some o->b≠X.env.locals:=fun b o e=>zAs (zAt (zAr e) I.ok.above);have neC:∀ b o,X.s₀.heap.get? b=some o->b∉X.ex->b∉ch:=fun b o e hx hb=>by
  rcases (hch b hb).1 with z | z
  ·exact hx z
  ·exact absurd (zAt (zAr e) z) (zBx _)
 have cellK:∀ x c,X.env.cells.lookup x=some c->∀ v,s.heap.IsCell c v->h'.IsCell c v:=fun x c e v ⟨o,ho,hd⟩=>by
  have nch:c∉ch:=fun z=>(hch c z).2.2.1 x c e rfl;by_cases hc:c∈X.fs
  ·obtain⟨sl,q⟩:=slot c o (I.cne x c e) hc nch ho (I.freeC x c e)
   exact⟨_,q,hd⟩
  ·exact⟨o,keep c o (I.cne x c e) hc nch ho (I.freeC x c e),hd⟩
 refine⟨I.ok,I.os,hg,⟨fun b o e n hb hx=>?_,fun b o e n hb hx=>?_,fun b o e n hx=>?_,fun b o e hx=>?_,fun b xs e=>tups b xs (I.base.tups b xs e),fun b o xs e=>frzs b o xs (I.base.frzs b o xs e),fun b ps e=>?_⟩,?_,fun x c e=>?_,?_,fun x c e=>?_,fun p hp=>?_,hok,I.len⟩
 ·exact keep b o (neL b o e) hb (neC b o e hx) (I.base.keep b o e n hb hx) (I.base.free b o e n hx)
 ·obtain⟨sl,e1⟩:=I.base.slot b o e n hb hx
  obtain⟨sl',e2⟩:=slot b _ (neL b o e) hb (neC b o e hx) e1 (I.base.free b o e n hx);exact⟨sl',e2⟩
 ·obtain⟨o',e1⟩:=I.base.there b o e hx
  exact free b o' (neC b o e hx) e1 (I.base.free b o e n hx)
 ·obtain⟨o',e1⟩:=I.base.there b o e hx
  exact there b o' (neC b o e hx) e1
 ·obtain⟨m1,e1⟩:=I.base.tbls b ps e
  obtain⟨m2,e2⟩:=tbls b _ e1;exact⟨m1++m2,by rw[e2,Array.append_assoc]⟩
 ·obtain⟨m,hn,hl⟩:=I.loc
  refine⟨m,ns m hn,fun i x v e1 e2 e3=>?_⟩;obtain⟨u,r,l⟩:=hl i x v e1 e2 e3;refine⟨u,r,?_⟩;rcases l with l | ⟨k,c,e,z⟩
  ·exact .inl l
  ·exact .inr ⟨k,c,e,cellK x c e _ z⟩
 ·obtain⟨v,z⟩:=I.cell x c e
  exact⟨v,cellK x c e v z⟩
 ·obtain⟨m,⟨o,_,_,ho,_⟩,_⟩:=I.loc
  exact free _ o (fun z=>(hch _ z).2.1 rfl) ho I.free
 ·obtain⟨v,o,ho,hd⟩:=I.cell x c e
  exact free c o (fun z=>(hch c z).2.2.1 x c e rfl) ho (I.freeC x c e)
 ·obtain⟨e,n,ne,nf,d⟩:=I.pin p hp
  have nch:p.1∉ch:=fun z=>(hch p.1 z).2.2.2 p hp rfl;exact⟨keep p.1 p.2 ne nf nch e n,free p.1 p.2 nch e n,ne,nf,d⟩
theorem Inv.un {t':Nat} (I:Inv X pins σ H s) (u:Un X.fs [] H H' s.heap h') (hok:HOk X.prog X.w H' h'):Inv X pins σ H' { s with heap:=h',toks:=t' }:=by
 obtain⟨m,⟨o,es,ep,ho,r⟩,_⟩:=id I.loc;obtain⟨sl,hL⟩:=u.any ho I.free (by simp);exact I.step (g':=s.gens) (d':=s.drawn) (ch:=[]) (fun _ z=>nomatch z) (fun b o _ hb _ e n=>u.keep b o e n hb (by simp)) (fun b o _ hb _ e n=>u.slot b o e n hb (by simp)) (fun b o _ e n=>u.free b o e n (by simp)) (fun b o _ e=>u.there b o e (by simp)) u.tups u.frzs u.tbls (fun m' hm=>by
  obtain⟨o',es',ep',ho',r'⟩:=hm;rw[ho] at ho'; cases ho';exact⟨_,es',ep',hL,r'⟩) hok I.bare
theorem Inv.call {g':Array GenState} {t':Nat} {d':Drawn} {ch:List Addr} (I:Inv X pins σ H s) (u:Un (E4 X.stack) ch H H' s.heap h') (hok:HOk X.prog X.w H' h') (hg:AllBare g')
  (hch:∀ b∈ch,(b∈X.ex\/X.s₀.heap.objs.size<=b)/\b≠X.env.locals/\(∀ x c,X.env.cells.lookup x=some c->c≠b)/\∀ p∈X.pn++pins,p.1≠b) :
  Inv X pins σ H' { s with heap:=h',gens:=g',drawn:=d',toks:=t' }:=by
 obtain⟨m,⟨o,es,ep,ho,r⟩,_⟩:=id I.loc;obtain⟨sl,hL⟩:=u.any ho I.free fun z=>(hch _ z).2.1 rfl;exact I.step (ch:=ch) hch (fun b o hL hb hc e n=>u.keep b o e n (fun z=>(zAq.mp (I.stkSub b z)).elim hL hb) hc) (fun b o _ _ hc e n=>u.any e n hc) (fun b o hc e n=>u.free b o e n hc) (fun b o hc e=>u.there b o e hc) u.tups u.frzs u.tbls (fun m' hm=>by
  obtain⟨o',es',ep',ho',r'⟩:=hm;rw[ho] at ho'; cases ho';exact⟨_,es',ep',hL,r'⟩) hok hg
theorem Inv.turned {t':Nat} {it:Addr} (I:Inv X pins σ H s) (k:∀ b o,b≠it->s.heap.get? b=some o->h'.get? b=some o) (hn:H it=none) (hL:it≠X.env.locals)
  (h1:it∈X.ex\/X.s₀.heap.objs.size<=it) (h2:∀ x c,X.env.cells.lookup x=some c->c≠it) (h3:∀ p∈X.pn++pins,p.1≠it):Inv X pins σ H { s with heap:=h',toks:=t' }:=by
 have nit:∀ b u,H b=some u->b≠it:=fun b u e z=>by rw[z,hn] at e; cases e
 refine I.step (g':=s.gens) (d':=s.drawn) (ch:=[it]) (fun b hb=>?_) (fun b o _ _ hc e _=>k b o (fun z=>hc (by simp [z])) e) (fun b o _ _ hc e _=>⟨o.slots,k b o (fun z=>hc (by simp [z])) e⟩) (fun _ _ _ _ n=>n)
  (fun b o hc e=>⟨o,k b o (fun z=>hc (by simp [z])) e⟩) (fun _ _ e=>e) (fun _ _ _ e=>e) (fun b ps e=>⟨#[],by rw[e]; simp⟩) (fun m hm=>?_) (fun b u e=>?_) I.bare
 ·have e:b=it:=by simpa using hb
  subst e;exact⟨h1,hL,h2,h3⟩
 ·obtain⟨o,es,ep,ho,r⟩:=hm
  exact⟨o,es,ep,k _ o (Ne.symm hL) ho,r⟩
 ·refine (I.hok b u e).stay (fun c v hc q=>k c v ?_ q) (fun _ q=>q) fun _ _ q=>q
  rcases hc with z | z
  ·rw[z]; exact nit b u e
  ·exact nit c _ z
theorem Inv.tok (I:Inv X pins σ H s) (t:Nat):Inv X pins σ H { s with toks:=t }:=I.un (h':=s.heap) (t':=t) Un.refl I.hok
theorem Inv.kept {t':Nat} (I:Inv X pins σ H s) (k:∀ b u,s.heap.get? b=some u->h'.get? b=some u):Inv X pins σ H { s with heap:=h',toks:=t' }:=I.un (Un.kept k) (I.hok.kept k)
theorem Inv.laid {a:Addr} {o:HO} {t':Nat} (I:Inv X pins σ H s) (k:∀ b u,s.heap.get? b=some u->h'.get? b=some u) (hp:s.heap.objs.size<=a) (new:ObjOk X.prog X.w (upd H a o) h' a o) :
  Inv X pins σ (upd H a o) { s with heap:=h',toks:=t' }:=I.un (Un.laid k hp (I.hok.fresh hp)) (I.hok.laid k hp new)
theorem Inv.write {x e:Addr} {o:HO} {t':Nat} (I:Inv X pins σ H s) (mu:FN (H x)) (he:e=x\/H e=some (.own x)) (k:∀ b u,b≠e->s.heap.get? b=some u->h'.get? b=some u) (heo:∃ u,h'.get? e=some u)
  (new:ObjOk X.prog X.w (upd H x o) h' x o):Inv X pins σ (upd H x o) { s with heap:=h',toks:=t' }:=I.un (Un.write mu he k heo) (I.hok.write mu he k heo new)
theorem Inv.pins_of {pins':List (Addr×Obj)} (I:Inv X pins σ H s) (h:∀ p∈pins',s.heap.get? p.1=some p.2/\H p.1=none/\p.1≠X.env.locals/\p.1∉X.fs/\∀ v,p.2.data ≠ .cell v):Inv X pins' σ H s:=
 ⟨I.ok,I.os,I.bare,I.base,I.loc,I.cell,I.free,I.freeC,fun p hp=>(zAW.mp hp).elim (fun z=>I.pin p (zBE _ z)) (h p),I.hok,I.len⟩
theorem Wm {N:List Str} (hN:N.Nodup) {i j:Nat} {x:Str} (a:N[i]?=some x) (b:N[j]?=some x):i=j:=by
 obtain⟨h1,e1⟩:=zAp.mp a;obtain⟨h2,e2⟩:=zAp.mp b;exact (List.getElem_inj hN).mp (e1.trans e2.symm)
theorem Su {M:Model} {A:Around} {E:Value->Shared->Prop} {i:Nat} {x:Str} {v:V} {u:Value} {Q:Unit->Shared->Prop} (I:Inv X pins σ H s) (hN:X.N.Nodup) (hi:X.N[i]?=some x) (hx:GC X.env.scope x) (r:RelV v u)
  (h:∀ s',Inv X pins (σ.set i (some v)) H s'->(∃ a,zBm a s.heap s'.heap/\(a=X.env.locals\/X.env.cells.lookup x=some a))->Q () s') (hf:X.fn x=true\/X.env.scope.names.lookup x=some .local:=by first | exact .inl rfl | exact .inr rfl | assumption):wpAny M A (storeName X.env x u) Q E s:=by
 obtain⟨m,hn,hl⟩:=id I.loc;have hcls:(X.env.scope.kind == .class||(X.env.scope.kind == .module&&X.env.locals != X.env.globals))=false:=by rw[I.ok.kind]; rfl
 have hiσ:i<σ.length:=by rw[I.len]; exact (zAp.mp hi).1
 have cne:=I.cne;have tracked:∀ {a:Addr} {h':Heap},(∃ o,s.heap.get? a=some o/\H a=none)->zBm a s.heap h'->HOk X.prog X.w H h':=fun {a h'} ha hs b ob e=>by
  obtain⟨_,_,hfree⟩:=ha;refine (I.hok b ob e).stay (fun c w' hc q=>(hs.2 c ?_).trans q) (fun _ q=>q) fun _ _ q=>q;rintro rfl;rcases hc with rfl | hc
  ·rw[hfree] at e; cases e
  ·rw[hfree] at hc; cases hc
 rcases hx with hk | hk
 ·refine wpAny_storeName_local hk hn (fun h' hn' hs=>?_) hcls
  obtain⟨oL,_,_,hoL,_⟩:=id hn;refine h _ ⟨I.ok,I.os,I.bare,⟨fun b o e n hb hx=>?_,fun b o e n hb hx=>?_,I.base.free,fun b o e hx=>?_,I.base.tups,I.base.frzs,I.base.tbls⟩,⟨_,hn',fun j y v' e1 e2 e3=>?_⟩,fun y c e=>?_,I.free,I.freeC,fun p hp=>?_,tracked ⟨oL,hoL,I.free⟩ hs,by simpa using I.len⟩ ⟨_,hs,.inl rfl⟩
  ·exact (hs.2 b (zAs (zAt (zAr e) I.ok.above))).trans (I.base.keep b o e n hb hx)
  ·obtain⟨sl,e1⟩:=I.base.slot b o e n hb hx
   exact⟨sl,(hs.2 b (zAs (zAt (zAr e) I.ok.above))).trans e1⟩
  ·obtain⟨o',e1⟩:=I.base.there b o e hx
   exact⟨o',(hs.2 b (zAs (zAt (zAr e) I.ok.above))).trans e1⟩
  ·by_cases hj:j=i
   ·subst hj
    rw[hi] at e1; cases e1;rw[List.getElem?_set_self hiσ] at e2;cases e2;exact⟨u,r,.inl ⟨hk,by simp⟩⟩
   ·rw[List.getElem?_set_ne (Ne.symm hj)] at e2
    obtain⟨u',r',q⟩:=hl j y v' e1 e2 e3;refine⟨u',r',?_⟩;rcases q with ⟨k,e⟩ | ⟨k,c,e,z⟩
    ·refine .inl ⟨k,?_⟩
     have:y≠x:=fun e=>hj (Wm hN e1 (e▸hi));simp [this,e]
    ·exact .inr ⟨k,c,e,z.sameBut hs (cne y c e)⟩
  ·obtain⟨w',z⟩:=I.cell y c e
   exact⟨w',z.sameBut hs (cne y c e)⟩
  ·obtain⟨e,n,ne,nf,d⟩:=I.pin p hp
   exact⟨(hs.2 p.1 ne).trans e,n,ne,nf,d⟩
 ·have hfn:X.fn x=true:=by
   rcases hf with z | z
   ·exact z
   ·rw[z] at hk; cases hk
  obtain⟨c,hc⟩:=I.ok.has x (.inl hk);obtain⟨w',z⟩:=I.cell x c hc;refine wpAny_storeName_cell I.ok.kind hk hc z (fun h' hc' hs=>?_);obtain⟨oc,hoc,hocd⟩:=id z;refine h { s with heap:=h' } ⟨I.ok,I.os,I.bare,⟨fun b o e n hb hx=>?_,fun b o e n hb hx=>?_,I.base.free,fun b o e hx=>?_,I.base.tups,I.base.frzs,I.base.tbls⟩,⟨m,hn.sameBut hs (Ne.symm (cne x c hc)),fun j y v' e1 e2 e3=>?_⟩,fun y c' e=>?_,I.free,I.freeC,fun p hp=>?_,tracked ⟨oc,hoc,I.freeC x c hc⟩ hs,by simpa using I.len⟩ ⟨c,hs,.inr hc⟩
  ·exact (hs.2 b (zAs (zAt (zAr e) (I.ok.cab x c hfn hc)))).trans (I.base.keep b o e n hb hx)
  ·obtain⟨sl,e1⟩:=I.base.slot b o e n hb hx
   exact⟨sl,(hs.2 b (zAs (zAt (zAr e) (I.ok.cab x c hfn hc)))).trans e1⟩
  ·obtain⟨o',e1⟩:=I.base.there b o e hx
   exact⟨o',(hs.2 b (zAs (zAt (zAr e) (I.ok.cab x c hfn hc)))).trans e1⟩
  ·by_cases hj:j=i
   ·subst hj
    rw[hi] at e1; cases e1;rw[List.getElem?_set_self hiσ] at e2;cases e2;exact⟨u,r,.inr ⟨.inl hk,c,hc,hc'⟩⟩
   ·rw[List.getElem?_set_ne (Ne.symm hj)] at e2
    obtain⟨u',r',q⟩:=hl j y v' e1 e2 e3;refine⟨u',r',?_⟩;rcases q with q | ⟨k,c',e,z'⟩
    ·exact .inl q
    ·refine .inr ⟨k,c',e,z'.sameBut hs ?_⟩
     rintro rfl;exact hj (Wm hN e1 (I.ok.inj _ _ _ e hc▸hi))
  ·by_cases hcc:c'=c
   ·subst hcc; exact⟨_,hc'⟩
   ·obtain⟨w2,z2⟩:=I.cell y c' e
    exact⟨w2,z2.sameBut hs hcc⟩
  ·obtain⟨e,n,ne,nf,d⟩:=I.pin p hp
   refine⟨(hs.2 p.1 ?_).trans e,n,ne,nf,d⟩;intro q;rw[q,hoc] at e;have q':oc=p.2:=Option.some.inj e;exact d w' (by rw[<- q']; exact hocd)
theorem Vr {M:Model} {A:Around} {E:Value->Shared->Prop} {i:Nat} {x:Str} {v:V} {u:Value} {Q:Unit->Shared->Prop} (I:Inv X pins σ H s) (hN:X.N.Nodup) (hi:X.N[i]?=some x) (hx:GC X.env.scope x) (r:RelV v u)
  (h:∀ s',Inv X pins (σ.set i (some v)) H s'->Q () s') (hf:X.fn x=true\/X.env.scope.names.lookup x=some .local:=by first | exact .inl rfl | exact .inr rfl | assumption):wpAny M A (storeName X.env x u) Q E s:=
 Su I hN hi hx r (fun s' I' _=>h s' I') hf
theorem Inv.call' {s':Shared} {ch:List Addr} (I:Inv X pins σ H s) (ho:s'.os=s.os) (u:Un (E4 X.stack) ch H H' s.heap s'.heap) (hok:HOk X.prog X.w H' s'.heap) (hg:AllBare s'.gens)
  (hch:∀ b∈ch,(b∈X.ex\/X.s₀.heap.objs.size<=b)/\b≠X.env.locals/\(∀ x c,X.env.cells.lookup x=some c->c≠b)/\∀ p∈X.pn++pins,p.1≠b):Inv X pins σ H' s':=by
 obtain⟨h',g',d',t',o'⟩:=s';have e:o'=s.os:=ho;subst e;exact I.call (g':=g') (t':=t') (d':=d') u hok hg hch
end
abbrev XK:=Value->Option Addr->Hp->Prop
abbrev St:=List (Option V)
abbrev VK:=V->Hp->Prop
abbrev TE:=St->Hp->VK->Prop
abbrev TT:=St->Hp->(Bool->Hp->Prop)->Prop
abbrev TA:=St->Hp->(List V->Hp->Prop)->Prop
structure Mc where
 nx:St->Hp->Prop
 rt:VK
 bk:St->Hp->Prop:=fun _ _=>False
 ct:St->Hp->Prop:=fun _ _=>False
abbrev TS:=Mc->St->Hp->Prop
def EP (X:Cx) (pins:List (Addr×Obj)) (σ:St) (Q:VK) (u:Value) (s':Shared):Prop:=∃ v H',Inv X pins σ H' s'/\RelV v u/\Q v H'
def TP (X:Cx) (pins:List (Addr×Obj)) (σ:St) (Q:Bool->Hp->Prop) (b:Bool) (s':Shared):Prop:=∃ H',Inv X pins σ H' s'/\Q b H'
def AP (X:Cx) (pins:List (Addr×Obj)) (σ:St) (Q:List V->Hp->Prop) (us:List Value) (s':Shared):Prop:=∃ vs H',Inv X pins σ H' s'/\Vals vs us/\Q vs H'
def SP (X:Cx) (pins:List (Addr×Obj)) (D:Mc) (f:Flow) (s':Shared):Prop:=
 match f with
 | .next=>∃ σ' H',Inv X pins σ' H' s'/\D.nx σ' H'
 | .brk=>∃ σ' H',Inv X pins σ' H' s'/\D.bk σ' H'
 | .cont=>∃ σ' H',Inv X pins σ' H' s'/\D.ct σ' H'
 | .ret u=>∃ v σ' H',Inv X pins σ' H' s'/\RelV v u/\D.rt v H'
def PE (X:Cx) (e:Expr) (t:TE):Prop:=
 ∀ (pins:List (Addr×Obj)) (s:Shared) (σ:St) (H:Hp) (Q:VK),Inv X pins σ H s->t σ H Q->wpAny (model X.prog X.w) X.A (eval e X.env) (EP X pins σ Q) X.xe s
def PT (X:Cx) (e:Expr) (t:TT):Prop:=
 ∀ (pins:List (Addr×Obj)) (s:Shared) (σ:St) (H:Hp) (Q:Bool->Hp->Prop),Inv X pins σ H s->t σ H Q->wpAny (model X.prog X.w) X.A (isTrue e X.env (eval e X.env)) (TP X pins σ Q) X.xe s
def PW (X:Cx) (e:Expr) (t:TT):Prop:=
 ∀ (whole:Sem Value) (pins:List (Addr×Obj)) (s:Shared) (σ:St) (H:Hp) (Q:Bool->Hp->Prop),Inv X pins σ H s->t σ H Q->wpAny (model X.prog X.w) X.A (isTrue e X.env whole) (TP X pins σ Q) X.xe s
theorem PW.pt {X:Cx} {e:Expr} {t:TT} (h:PW X e t):PT X e t:=h _
def PA (X:Cx) (es:List Expr) (t:TA):Prop:=
 ∀ (pos:Pos) (pins:List (Addr×Obj)) (s:Shared) (σ:St) (H:Hp) (Q:List V->Hp->Prop),Inv X pins σ H s->t σ H Q->wpAny (model X.prog X.w) X.A (spliced (backTo pos (starEach es X.env))) (AP X pins σ Q) X.xe s
def PS (X:Cx) (st:Stmt) (t:TS):Prop:=
 ∀ (pins:List (Addr×Obj)) (s:Shared) (σ:St) (H:Hp) (D:Mc),Inv X pins σ H s->t D σ H->wpAny (model X.prog X.w) X.A (exec st X.env) (SP X pins D) X.xe s
def PSs (X:Cx) (st:List Stmt) (t:TS):Prop:=
 ∀ (pins:List (Addr×Obj)) (s:Shared) (σ:St) (H:Hp) (D:Mc),Inv X pins σ H s->t D σ H->wpAny (model X.prog X.w) X.A (execs st X.env) (SP X pins D) X.xe s
theorem Cn {α:Type} {t:Sem α} {Q Q':α->Shared->Prop} {M:Model} {A:Around} {E:Value->Shared->Prop} {s:Shared} (h:wpAny M A t Q E s) (hQ:∀ a s,Q a s->Q' a s):wpAny M A t Q' E s:=wpAny_mono h hQ fun _ _ x=>x
section
variable {X:Cx}
theorem IN {a b:Expr} {ta tb:TE} (ha:PE X a ta) (hb:PE X b tb) {pins:List (Addr×Obj)} {s:Shared} {σ:St} {H:Hp} {R:V->V->Hp->Prop} (I:Inv X pins σ H s) (h:ta σ H fun x H1=>tb σ H1 fun y H2=>R x y H2)
  {α:Type} {Q:α->Shared->Prop} {f:Value->Value->Sem α}
  (hf:∀ v u s2 x y H2,Inv X pins σ H2 s2->RelV x v->RelV y u->R x y H2->wpAny (model X.prog X.w) X.A (f v u) Q X.xe s2) :
  wpAny (model X.prog X.w) X.A (eval a X.env) (fun v s₁ => wpAny (model X.prog X.w) X.A (eval b X.env) (fun u s₂ => wpAny (model X.prog X.w) X.A (f v u) Q X.xe s₂) X.xe s₁) X.xe s:=by
 refine Cn (ha pins s σ H _ I h) fun v s1 ⟨x,H1,I1,r1,q1⟩=>?_;refine Cn (hb pins s1 σ H1 _ I1 q1) fun u s2 ⟨y,H2,I2,r2,q2⟩=>?_;exact hf v u s2 x y H2 I2 r1 r2 q2
def Fz (i:Nat):TE:=fun σ H Q=>∃ v,σ[i]?=some (some v)/\Q v H
def tC (v:V):TE:=fun _ H Q=>Q v H
theorem EG {i:Nat} {x:Str} {pos:Pos} (hN:X.N[i]?=some x) (hv:GU X.env.scope x) (hd:(x==("__debug__" : Str))=false:=by decide) (hcd:(x==("__classdict__" : Str))=false:=by decide):PE X (.Name x pos) (Fz i):=by
 intro pins s σ H Q I h;obtain⟨v,e,h⟩:=h;obtain⟨m,hn,hl⟩:=I.loc;obtain⟨u,r,l⟩:=hl i x v hN e hv;have fin:EP X pins σ Q u s:=⟨v,H,I,r,h⟩;rcases l with ⟨hk,hm⟩ | ⟨hk,c,hc,hcell⟩
 ·exact wpAny_Name (wpAny_loadName_local I.ok.kind hk hn hm fin) hd
 ·rcases hk with hk | hk
  ·exact wpAny_Name (wpAny_loadName_cell I.ok.kind hk hc hcell fin) hd
  ·exact wpAny_Name (wpAny_loadName_free I.ok.kind hk hc hcell fin hcd) hd
theorem Ac {i j pos}:PE X (.Constant (.int i) j pos) (tC (.int i)):=fun _ _ _ H _ I h=>wpAny_Constant_int ⟨.int i,H,I.tok _,⟨_,rfl⟩,h⟩
theorem Cp {b j pos}:PE X (.Constant (.bool b) j pos) (tC (.bl b)):=fun _ _ _ H _ I h=>Constant_bool ⟨.bl b,H,I,rfl,h⟩
theorem Tp {j pos}:PE X (.Constant .none j pos) (tC .non):=fun _ _ _ H _ I h=>Constant_none ⟨.non,H,I,rfl,h⟩
theorem Bi {x j pos}:PE X (.Constant (.str x) j pos) (tC (.str x)):=fun _ _ _ H _ I h=>Calls.Constant_str ⟨.str x,H,I.tok _,⟨_,rfl⟩,h⟩
def Gl (X:Cx) (x:Str):Prop:=X.env.kindOf x=some .globalImplicit
theorem Ox {E:Value->Shared->Prop} {pins:List (Addr×Obj)} {s:Shared} {σ:St} {H:Hp} {x:Str} {u:Value} {pos:Pos} {Q:Value->Shared->Prop} (I:Inv X pins σ H s) (hg:Gl X x) (hm:X.mg x=some u) (h:Q u s)
  (hd:(x==("__debug__" : Str))=false:=by decide):wpAny (model X.prog X.w) X.A (eval (.Name x pos) X.env) Q E s:=
 Calls.Name_function_global I.ok.kind hg (Calls.loadGlobal_global (by rw[I.ok.glob]; exact I.mod.glob.keeps I.bk) hm h) hd
theorem Dy {E:Value->Shared->Prop} {pins:List (Addr×Obj)} {s:Shared} {σ:St} {H:Hp} {x:Str} {u:Value} {pos:Pos} {Q:Value->Shared->Prop} (I:Inv X pins σ H s) (hg:Gl X x) (hm:X.mg x=none) (hv:zCs x=some u) (h:Q u s)
  (hn:x ≠ "__name__" := by decide) (hd:(x==("__debug__" : Str))=false:=by decide):wpAny (model X.prog X.w) X.A (eval (.Name x pos) X.env) Q E s:=by
 obtain⟨mb,h1,h2⟩:=I.mod.blt;exact Calls.Name_function_global I.ok.kind hg (Calls.loadGlobal_builtin (by rw[I.ok.glob]; exact I.mod.glob.keeps I.bk) hm (by rw[I.ok.blt]; exact h1.keeps I.bk) ((h2 x hn).trans hv) h) hd
theorem D5 {x:Str} {v:V} {u:Value} {pos:Pos} (hg:Gl X x) (hm:X.mg x=some u) (r:RelV v u) (hd:(x==("__debug__" : Str))=false:=by decide):PE X (.Name x pos) (tC v):=
 fun _ _ _ H _ I h=>Ox I hg hm ⟨v,H,I,r,h⟩ hd
theorem Z9 {x:Str} {v:V} {u:Value} {pos:Pos} (hg:Gl X x) (hm:X.mg x=none) (hv:zCs x=some u) (r:RelV v u) (hn:x ≠ "__name__" := by decide) (hd:(x==("__debug__" : Str))=false:=by decide):PE X (.Name x pos) (tC v):=
 fun _ _ _ H _ I h=>Dy I hg hm hv ⟨v,H,I,r,h⟩ hn hd
variable {a b:Expr} {ta tb:TE} {pos:Pos}
def PC (X:Cx) (op:CmpOp) (a b:Expr) (t:TE):Prop:=
 ∀ (pins:List (Addr×Obj)) (s:Shared) (σ:St) (H:Hp) (Q:VK),Inv X pins σ H s->t σ H Q ->
  wpAny (model X.prog X.w) X.A (eval a X.env) (fun v s₁ => wpAny (model X.prog X.w) X.A (eval b X.env) (fun u s₂ => wpAny (model X.prog X.w) X.A (compareOp op v u) (EP X pins σ Q) X.xe s₂) X.xe s₁) X.xe s
def tB (t:TE):TT:=fun σ H Q=>t σ H fun x H1=>∃ c,x = .bl c/\Q c H1
theorem DF {op:CmpOp} {t:TE} (h:PC X op a b t) (h1:behindInMarks op b=false:=by first | exact nobehind _ (by decide) (by decide) | rfl):PT X (.Compare a [op] [b] pos) (tB t):=by
 intro pins s σ H Q I hw;refine wpAny_isTrue_Compare1 (Cn (h pins s σ H _ I hw) fun v s1 h1=>Cn h1 fun u s2 h2=>Cn h2 fun c s3 ⟨x,H1,I1,r1,q1⟩=>?_) h1;obtain⟨d,rfl,q⟩:=q1;cases r1;exact wpAny_truthy_bool ⟨H1,I1,q⟩
theorem Bx {e:Expr} {t:TE} (h:PE X e t) (he:∀ whole,isTrue e X.env whole=(do let v <- whole; standAt e.pos; holding [v] (truthy v)):=by intro _; rfl):PT X e (tB t):=by
 intro pins s σ H Q I hw;refine isTrue_plain (Cn (h pins s σ H _ I hw) fun v s1 ⟨x,H1,I1,r1,q1⟩=>?_) (he _);obtain⟨d,rfl,q⟩:=q1;cases r1;exact wpAny_truthy_bool ⟨H1,I1,q⟩
variable {tA tB':TT} {rest:List Expr}
def GT (t u:TT):TT:=fun σ H Q=>t σ H fun c H1=>if c=true then u σ H1 Q else Q false H1
def IH (t u:TT):TT:=fun σ H Q=>t σ H fun c H1=>if c=true then Q true H1 else u σ H1 Q
def HH (t:TT):TT:=fun σ H Q=>t σ H fun c H1=>Q (!c) H1
theorem Lu (ha:PT X a tA):PW X (.BoolOp .And [a] pos) tA:=by
 intro wh pins s σ H Q I h;refine isTrue_and (Cn (ha pins s σ H Q I h) fun c s1 e=>?_);cases c with
 | true=>exact isTrue_and_nil e
 | false=>exact e
theorem Dn (ha:PT X a tA):PW X (.BoolOp .Or [a] pos) tA:=by
 intro wh pins s σ H Q I h;refine isTrue_or (Cn (ha pins s σ H Q I h) fun c s1 e=>?_);cases c with
 | false=>exact isTrue_or_nil e
 | true=>exact e
theorem Mv (ha:PT X a tA) (hb:PW X (.BoolOp .And (b::rest) pos) tB'):PW X (.BoolOp .And (a::b::rest) pos) (GT tA tB'):=by
 intro wh pins s σ H Q I h;refine isTrue_and (Cn (ha pins s σ H _ I h) fun c s1 ⟨H1,I1,q1⟩=>?_);cases c with
 | true=>exact hb wh pins s1 σ H1 Q I1 q1
 | false=>exact⟨H1,I1,q1⟩
theorem Dk (ha:PT X a tA) (hb:PW X (.BoolOp .Or (b::rest) pos) tB'):PW X (.BoolOp .Or (a::b::rest) pos) (IH tA tB'):=by
 intro wh pins s σ H Q I h;refine isTrue_or (Cn (ha pins s σ H _ I h) fun c s1 ⟨H1,I1,q1⟩=>?_);cases c with
 | true=>exact⟨H1,I1,q1⟩
 | false=>exact hb wh pins s1 σ H1 Q I1 q1
theorem Bz (ha:PT X a tA):PT X (.UnaryOp .Not a pos) (HH tA):=by
 intro pins s σ H Q I h;exact isTrue_not (ha pins s σ H (fun c H1=>Q (!c) H1) I h)
def FH (ta tb:TE):TE:=fun σ H Q=>ta σ H fun x H1=>∃ c,x = .bl c/\if c=true then tb σ H1 Q else Q (.bl false) H1
def GQ (ta tb:TE):TE:=fun σ H Q=>ta σ H fun x H1=>∃ c,x = .bl c/\if c=true then Q (.bl true) H1 else tb σ H1 Q
def FQ (ta:TE):TE:=fun σ H Q=>ta σ H fun x H1=>∃ c,x = .bl c/\Q (.bl (!c)) H1
theorem Me {op} {t:TE} (h:PE X a t):PE X (.BoolOp op [a] pos) t:=fun pins s σ H Q I hw=>BoolOp_one (h pins s σ H Q I hw)
theorem Mt (ha:PE X a ta) (hb:PE X (.BoolOp .And (b::rest) pos) tb):PE X (.BoolOp .And (a::b::rest) pos) (FH ta tb):=by
 intro pins s σ H Q I h;refine BoolOp_and (Cn (ha pins s σ H _ I h) fun v s1 ⟨x,H1,I1,r1,q1⟩=>?_);obtain⟨c,rfl,q1⟩:=q1;cases r1;refine wpAny_truthy_bool ?_;cases c with
 | true=>exact hb pins s1 σ H1 Q I1 q1
 | false=>exact⟨.bl false,H1,I1,rfl,q1⟩
theorem FZ (ha:PE X a ta) (hb:PE X (.BoolOp .Or (b::rest) pos) tb):PE X (.BoolOp .Or (a::b::rest) pos) (GQ ta tb):=by
 intro pins s σ H Q I h;refine BoolOp_or (Cn (ha pins s σ H _ I h) fun v s1 ⟨x,H1,I1,r1,q1⟩=>?_);obtain⟨c,rfl,q1⟩:=q1;cases r1;refine wpAny_truthy_bool ?_;cases c with
 | false=>exact hb pins s1 σ H1 Q I1 q1
 | true=>exact⟨.bl true,H1,I1,rfl,q1⟩
theorem M7 (ha:PE X a ta):PE X (.UnaryOp .Not a pos) (FQ ta):=by
 intro pins s σ H Q I h;refine UnaryOp_ (Cn (ha pins s σ H _ I h) fun v s1 ⟨x,H1,I1,r1,q1⟩=>?_);obtain⟨c,rfl,q1⟩:=q1;cases r1;exact not_of (wpAny_truthy_bool ⟨.bl (!c),H1,I1,rfl,q1⟩)
def HX (t:TT) (ta tb:TE):TE:=fun σ H Q=>t σ H fun c H1=>if c=true then ta σ H1 Q else tb σ H1 Q
theorem Hk {c:Expr} (hc:PT X c tA) (ha:PE X a ta) (hb:PE X b tb):PE X (.IfExp c a b pos) (HX tA ta tb):=by
 intro pins s σ H Q I h;refine wpAny_IfExp (Cn (hc pins s σ H _ I h) fun d s1 ⟨H1,I1,q1⟩=>?_);cases d with
 | true=>exact ha pins s1 σ H1 Q I1 q1
 | false=>exact hb pins s1 σ H1 Q I1 q1
end
def SqL (K:zAb) (H:Hp) (a:Addr) (xs:List V):Prop:=
 Rd H a (.lst xs) \/
  ∃ (o:Obj) (its:Array Value) (n:Nat),K.lookup a=some o/\o.cls = .type "list"/\o.dict=none/\o.data = .seq its n/\its.size<=sizeLine/\Vals xs its.toList
def SqT (K:zAb) (H:Hp) (a:Addr) (xs:List V):Prop:=
 Rd H a (.tup xs) \/
  ∃ (o:Obj) (its:Array Value) (n:Nat),K.lookup a=some o/\o.cls = .type "tuple"/\o.data = .seq its n/\its.size<=sizeLine/\Vals xs its.toList
def HG:Value->Option V
 | .none=>some .non
 | .bool b=>some (.bl b)
 | .int i _=>some (.int i)
 | .str x _=>some (.str x)
 | .bytes b _=>some (.byt b)
 | .float b _=>some (.flt b)
 | .ref a=>some (.ref a)
 | .type n=>some (.ty n)
 | _=>none
theorem RelV.abs {x:V} {u:Value} (r:RelV x u):HG u=some x:=by
 cases x with
 | non=>cases r; rfl
 | bl _=>cases r; rfl
 | int _=>obtain⟨t,rfl⟩:=r; rfl
 | str _=>obtain⟨t,rfl⟩:=r; rfl
 | byt _=>obtain⟨t,rfl⟩:=r; rfl
 | flt _=>obtain⟨t,rfl⟩:=r; rfl
 | ref _=>cases r; rfl
 | ty _=>cases r; rfl
theorem RelV.inj {x y:V} {u:Value} (r:RelV x u) (q:RelV y u):x=y:=Option.some.inj (r.abs.symm.trans q.abs)
theorem Vals.inj:∀ {xs ys:List V} {us:List Value},Vals xs us->Vals ys us->xs=ys
 | _,_,_,.nil,.nil=>rfl
 | _,_,_,.cons r t,.cons r' t'=>by rw[r.inj r',Vals.inj t t']
section
variable {X:Cx} {pins:List (Addr×Obj)} {σ:St} {H:Hp} {s:Shared} {a:Addr} {xs ys:List V}
theorem SqL.of {K:zAb} (h:H a=some (.lst xs)):SqL K H a xs:=.inl (.inl h)
theorem SqT.of {K:zAb} (h:H a=some (.tup xs)):SqT K H a xs:=.inl (.inl h)
theorem Inv.list (I:Inv X pins σ H s) (h:SqL X.K H a xs):∃ its:List Value,Vals xs its/\PlainL s.heap a its.toArray/\xs.length<=sizeLine:=by
 rcases h with h | ⟨o,its,n,hk,hc,hd,hs,hz,r⟩
 ·obtain⟨z,its,n,r,e⟩:=h.ok I.hok
  exact⟨its,r,⟨_,n,e,rfl,rfl,rfl⟩,z⟩
 ·refine⟨its.toList,r,⟨o,n,I.kIn a o hk,hc,hd,by simpa using hs⟩,?_⟩
  have e:=r.length;simp only [zAx] at e
  lia
theorem Inv.tuple (I:Inv X pins σ H s) (h:SqT X.K H a xs):∃ its:List Value,Vals xs its/\IsTup s.heap a its.toArray/\xs.length<=sizeLine:=by
 rcases h with h | ⟨o,its,n,hk,hc,hs,hz,r⟩
 ·obtain⟨z,its,r,p⟩:=h.ok I.hok
  exact⟨its,r,p,z⟩
 ·refine⟨its.toList,r,⟨o,I.kIn a o hk,hc,n,by simpa using hs⟩,?_⟩
  have e:=r.length;simp only [zAx] at e
  lia
theorem Inv.list_inj (I:Inv X pins σ H s) (h:SqL X.K H a xs) (h':SqL X.K H a ys):xs=ys:=by
 obtain⟨its,r,⟨o,n,e,_,_,d⟩,_⟩:=I.list h;obtain⟨its',r',⟨o',n',e',_,_,d'⟩,_⟩:=I.list h';rw[e] at e'; cases e';rw[d] at d';injection d' with d1 _;have:its=its':=by simpa using congrArg Array.toList d1
 subst this;exact r.inj r'
theorem Inv.tuple_inj (I:Inv X pins σ H s) (h:SqT X.K H a xs) (h':SqT X.K H a ys):xs=ys:=by
 obtain⟨its,r,⟨o,e,_,n,d⟩,_⟩:=I.tuple h;obtain⟨its',r',⟨o',e',_,n',d'⟩,_⟩:=I.tuple h';rw[e] at e'; cases e';rw[d] at d';injection d' with d1 _;have:its=its':=by simpa using congrArg Array.toList d1
 subst this;exact r.inj r'
end
abbrev Cx.wish (X:Cx) (E:Value->Shared->Prop):Cx:={ X with xe:=E }
abbrev Cx.nox (X:Cx):Cx:=X.wish fun _ _=>False
theorem Cx.Ok.wish {X:Cx} (ok:X.Ok) (E:Value->Shared->Prop):(X.wish E).Ok:=
 ⟨ok.mod,ok.kind,ok.glob,ok.blt,ok.above,ok.inj,ok.has,ok.cab,ok.hd,ok.frames,ok.stk,ok.exf,ok.bs,ok.bsz,ok.noex,ok.exfs,ok.funs,ok.frf⟩
theorem Cx.Ok.unwish {X:Cx} {E:Value->Shared->Prop} (ok:(X.wish E).Ok):X.Ok:=
 ⟨ok.mod,ok.kind,ok.glob,ok.blt,ok.above,ok.inj,ok.has,ok.cab,ok.hd,ok.frames,ok.stk,ok.exf,ok.bs,ok.bsz,ok.noex,ok.exfs,ok.funs,ok.frf⟩
section
variable {X:Cx} {pins:List (Addr×Obj)} {σ:St} {H:Hp} {s:Shared} {E:Value->Shared->Prop}
theorem Inv.wish (I:Inv X pins σ H s) (E:Value->Shared->Prop):Inv (X.wish E) pins σ H s:=⟨I.ok.wish E,I.os,I.bare,I.base,I.loc,I.cell,I.free,I.freeC,I.pin,I.hok,I.len⟩
theorem Inv.unwish (I:Inv (X.wish E) pins σ H s):Inv X pins σ H s:=⟨I.ok.unwish,I.os,I.bare,I.base,I.loc,I.cell,I.free,I.freeC,I.pin,I.hok,I.len⟩
theorem SP.unwish {D:Mc} {f:Flow} {s':Shared} (h:SP (X.wish E) pins D f s'):SP X pins D f s':=by
 cases f with
 | next=>obtain⟨σ',H',I,q⟩:=h; exact⟨σ',H',I.unwish,q⟩
 | brk=>obtain⟨σ',H',I,q⟩:=h; exact⟨σ',H',I.unwish,q⟩
 | cont=>obtain⟨σ',H',I,q⟩:=h; exact⟨σ',H',I.unwish,q⟩
 | ret u=>obtain⟨v,σ',H',I,r,q⟩:=h; exact⟨v,σ',H',I.unwish,r,q⟩
theorem PSs.nox {st:List Stmt} {t:TS} (h:PSs X.nox st t):PSs X st t:=fun pins s σ H D I hw=>
 wpAny_mono (h pins s σ H D (I.wish _) hw) (fun _ _ q=>q.unwish) fun _ _ z=>False.elim z
end
section
variable {X:Cx} {st:Stmt} {rest:List Stmt} {t u:TS} {e:Expr} {te:TE} {pos:Pos}
def BO:TS:=fun D σ H=>D.nx σ H
def Wl (t u:TS):TS:=fun D σ H=>t { D with nx:=u D } σ H
theorem Bc:PSs X [] BO:=fun _ _ σ H _ I h=>wpAny_execs_nil ⟨σ,H,I,h⟩
theorem Ae (h1:PS X st t) (h2:PSs X rest u):PSs X (st::rest) (Wl t u):=by
 intro pins s σ H D I h;refine wpAny_execs_cons (Cn (h1 pins s σ H { D with nx:=u D } I h) fun f s1 q=>?_);cases f with
 | next=>
  obtain⟨σ',H',I',q⟩:=q;exact h2 pins s1 σ' H' D I' q
 | ret v=>exact q
 | brk=>exact q
 | cont=>exact q
theorem Aj (h1:PS X st t):PSs X [st] t:=by
 intro pins s σ H D I h;refine wpAny_execs_cons (Cn (h1 pins s σ H D I h) fun f s1 q=>?_);cases f with
 | next=>exact wpAny_execs_nil q
 | ret v=>exact q
 | brk=>exact q
 | cont=>exact q
theorem Inv.quiet {pins:List (Addr×Obj)} {σ:St} {H:Hp} {s:Shared} (I:Inv X pins σ H s):interactive X.env=false:=by simp [interactive,I.ok.kind]
def EN (te:TE):TS:=fun D σ H=>te σ H fun _ H1=>D.nx σ H1
theorem Fu (he:PE X e te) (hs:swapsWith e none pos.line X.env=pure false:=by rfl):PS X (.Expr e pos) (EN te):=by
 intro pins s σ H D I h;exact wpAny_Expr_any (Cn (he pins s σ H _ I h) fun v s1 ⟨x,H1,I1,r1,q1⟩=>⟨σ,H1,I1,q1⟩) I.quiet hs
def Zh (te:TE):TS:=fun D σ H=>te σ H D.rt
theorem Au (he:PE X e te):PS X (.Return (some e) pos) (Zh te):=by
 intro pins s σ H D I h;exact wpAny_Return_some (Cn (he pins s σ H _ I h) fun v s1 ⟨x,H1,I1,r1,q1⟩=>⟨x,σ,H1,I1,r1,q1⟩)
def ES (c:TT) (t u:TS):TS:=fun D σ H=>c σ H fun b H1=>if b=true then t D σ H1 else u D σ H1
theorem Bm {c:Expr} {a b:List Stmt} {tc:TT} (hc:PT X c tc) (ha:PSs X a t) (hb:PSs X b u):PS X (.If c a b pos) (ES tc t u):=by
 intro pins s σ H D I h;refine wpAny_If (Cn (hc pins s σ H _ I h) fun d s1 ⟨H1,I1,q1⟩=>?_);cases d with
 | true=>exact ha pins s1 σ H1 D I1 q1
 | false=>exact hb pins s1 σ H1 D I1 q1
def DN:TS:=fun _ _ _=>False
theorem Gj:PS X st DN:=fun _ _ _ _ _ _ h=>h.elim
end
abbrev TG:=V->St->Hp->(St->Hp->Prop)->Prop
abbrev BF:=List V->St->Hp->(St->Hp->Prop)->Prop
def PG (X:Cx) (target:Expr) (t:TG):Prop:=
 ∀ (pins:List (Addr×Obj)) (s:Shared) (σ:St) (H:Hp) (v:V) (u:Value) (Q:St->Hp->Prop),Inv X pins σ H s->RelV v u->t v σ H Q ->
  wpAny (model X.prog X.w) X.A (assign target X.env u) (fun _ s'=>∃ σ' H',Inv X pins σ' H' s'/\Q σ' H') X.xe s
def FW (X:Cx) (ts:List Expr) (t:BF):Prop:=
 ∀ (pins:List (Addr×Obj)) (s:Shared) (σ:St) (H:Hp) (vs:List V) (us:List Value) (Q:St->Hp->Prop),Inv X pins σ H s->Vals vs us->t vs σ H Q ->
  wpAny (model X.prog X.w) X.A (assignInOrder ((assignEach ts X.env).map (·.2)) us) (fun _ s'=>∃ σ' H',Inv X pins σ' H' s'/\Q σ' H') X.xe s
abbrev DJ:=V->V->V->Hp->(Hp->Prop)->Prop
def FI (X:Cx) (t:DJ):Prop:=
 ∀ (pins:List (Addr×Obj)) (s:Shared) (σ:St) (H:Hp) (o i v:V) (ov iv u:Value) (Q:Hp->Prop),Inv X pins σ H s->RelV o ov->RelV i iv->RelV v u->t o i v H Q ->
  wpAny (model X.prog X.w) X.A (setItem ov iv u) (fun _ s'=>∃ H',Inv X pins σ H' s'/\Q H') X.xe s
section
variable {X:Cx} {pos:Pos}
def Dw (i:Nat):TG:=fun v σ H Q=>Q (σ.set i (some v)) H
theorem Bh {i:Nat} {x:Str} (hN:X.N.Nodup) (hi:X.N[i]?=some x) (hx:GC X.env.scope x) (hf:X.fn x=true\/X.env.scope.names.lookup x=some .local:=by first | exact .inl rfl | exact .inr rfl | assumption):PG X (.Name x pos) (Dw i):=by
 intro pins s σ H v u Q I r h;exact wpAny_assign_Name (Vr I hN hi hx r (fun s' I'=>⟨_,H,I',h⟩) hf)
def CT:BF:=fun vs σ H Q=>vs=[]/\Q σ H
def Vq (t:TG) (u:BF):BF:=fun vs σ H Q=>∃ v r,vs=v::r/\t v σ H fun σ' H'=>u r σ' H' Q
theorem Ov:FW X [] CT:=by
 intro pins s σ H vs us Q I r h;obtain⟨e,h⟩:=h;subst e;cases r;exact assignInOrder_nil ⟨σ,H,I,h⟩
theorem Et {e:Expr} {es:List Expr} {t:TG} {u:BF} (h1:PG X e t) (h2:FW X es u)
  (hs:(assignEach (e::es) X.env).map (·.2)=assign e X.env::(assignEach es X.env).map (·.2):=by rfl):FW X (e::es) (Vq t u):=by
 intro pins s σ H vs us Q I r h;obtain⟨v,vr,e1,h⟩:=h;subst e1;cases r with
 | cons r rr=>
  rw[hs];refine assignInOrder_cons (Cn (h1 pins s σ H _ _ _ I r h) fun _ s1 ⟨σ1,H1,I1,q1⟩=>?_);exact h2 pins s1 σ1 H1 _ _ Q I1 rr q1
def Z7 (K:zAb) (n:Nat) (t:BF):TG:=fun v σ H Q=>∃ a xs,v = .ref a/\SqT K H a xs/\xs.length=n/\t xs σ H Q
theorem Yj {es:List Expr} {k:Nat} {t:BF} {n:Nat} (hc:X.calm=true) (h:FW X es t)
  (hn:(assignEach es X.env).length=n:=by rfl) (hst:(assignEach es X.env).findIdx? (·.1)=none:=by rfl):PG X (.Tuple es k pos) (Z7 X.K n t):=by
 intro pins s σ H v u Q I r hw;obtain⟨a,xs,e1,hq,hl,hw⟩:=hw;subst e1;cases r;obtain⟨its,rv,ht,hz⟩:=I.tuple hq;refine assign_Tuple_tuple (I.ok.hd hc) ht (by simp [hn,<- hl,rv.length]) hst fun h' hx=>?_;have I1:Inv X pins σ H { s with heap:=h' }:=I.kept (t':=s.toks) fun b o e=>hx b o (zAs (zAr e)) e;exact h pins _ σ H xs _ Q I1 (by simpa using rv) hw
def HK (to ti:TE) (t:DJ):TG:=fun v σ H Q=>to σ H fun o H1=>ti σ H1 fun i H2=>t o i v H2 fun H3=>Q σ H3
theorem DO {o i:Expr} {to ti:TE} {t:DJ} (ho:PE X o to) (hi:PE X i ti) (hs:FI X t)
  (ha:∀ v,assign (.Subscript o i pos) X.env v=(do
   let ov <- holding [v] (eval o X.env)
   let iv <- holding [v,ov] (eval i X.env)
   standAt pos
   holding [v,ov,iv] (setItem ov iv v)
   release [v,ov,iv] []):=by intro _; rfl):PG X (.Subscript o i pos) (HK to ti t):=by
 intro pins s σ H v u Q I r h;rw[ha];refine zCp (wpAny_holding (Cn (ho pins s σ H _ I h) fun ov s1 ⟨x,H1,I1,r1,q1⟩=>?_));refine zCp (wpAny_holding (Cn (hi pins s1 σ H1 _ I1 q1) fun iv s2 ⟨y,H2,I2,r2,q2⟩=>?_));refine zCp (wpAny_standAt (zCp (wpAny_holding (Cn (hs pins s2 σ H2 x y v ov iv u _ I2 r1 r2 r q2) fun _ s3 ⟨H3,I3,q3⟩=>?_))));exact wpAny_release ⟨σ,H3,I3,q3⟩
def Ya (te:TE) (g:TG):TS:=fun D σ H=>te σ H fun x H1=>g x σ H1 D.nx
theorem DH {tg e:Expr} {te:TE} {g:TG} (he:PE X e te) (hg:PG X tg g) (hs:swapsWithSole [tg] e pos.line X.env=pure false:=by rfl) (hw:swappedStores [tg] e X.env=pure none:=by rfl)
  (h1:(assignEach [tg] X.env).map (·.2)=[assign tg X.env]:=by rfl):PS X (.Assign [tg] e pos) (Ya te g):=by
 intro pins s σ H D I h;refine wpAny_Assign_stores (Cn (he pins s σ H _ I h) fun v s1 ⟨x,H1,I1,r1,q1⟩=>?_) hs hw;rw[h1];exact Cn (hg pins s1 σ H1 x v _ I1 r1 q1) fun _ s2 q=>q
theorem Ba {i:Nat} {x:Str} {e:Expr} {te:TE} {pos':Pos} (hN:X.N.Nodup) (hi:X.N[i]?=some x) (hx:GC X.env.scope x) (he:PE X e te) (hs:swapsWith e (some (.Name x pos')) pos.line X.env=pure false:=by rfl) (hf:X.fn x=true\/X.env.scope.names.lookup x=some .local:=by first | exact .inl rfl | exact .inr rfl | assumption) :
  PS X (.Assign [.Name x pos'] e pos) (Ya te (Dw i)):=by
 intro pins s σ H D I h;refine wpAny_Assign_Name (Cn (he pins s σ H _ I h) fun v s1 ⟨y,H1,I1,r1,q1⟩=>?_) hs;exact Vr I1 hN hi hx r1 (fun s2 I2=>⟨_,H1,I2,q1⟩) hf
def CH (c:TT) (tb:TS):TS:=fun D σ H=>∃ W:Nat->St->Hp->Prop,(∃ m,W m σ H)/\∀ m σ H,W m σ H ->
 c σ H fun b H1=>if b=true then ∃ N:St->Hp->Prop,(∀ σ' H',N σ' H'->∃ m',m'<m/\W m' σ' H')/\tb { D with nx:=N,ct:=N,bk:=D.nx } σ H1 else D.nx σ H1
theorem Pl {c:Expr} {body:List Stmt} {tc:TT} {tb:TS} (hp:PassesOwn (model X.prog X.w) X.A X.env X.xe) (hc:PT X c tc) (hb:PSs X body tb):PS X (.While c body [] pos) (CH tc tb):=by
 intro pins s σ H D I h;obtain⟨W,⟨m0,w0⟩,turn⟩:=h;refine wpAny_While (codeAny_whileLoop (fun n s'=>∃ σ' H',Inv X pins σ' H' s'/\W n σ' H') ?_ m0 ⟨σ,H,I,w0⟩);rintro n s1 ⟨σ1,H1,I1,w1⟩;refine wpAny_passesOwn hp (Cn (hc pins s1 σ1 H1 _ I1 (turn n σ1 H1 w1)) fun b s2 ⟨H2,I2,q2⟩=>?_);cases b with
 | true=>
  obtain⟨N,hN,q2⟩:=q2;rw[if_pos rfl];refine wpAny_passesOwn hp (Cn (hb pins s2 σ1 H2 _ I2 q2) fun f s3 q3=>?_);cases f with
  | next=>
   obtain⟨σ3,H3,I3,n3⟩:=q3;obtain⟨m',hm,w3⟩:=hN σ3 H3 n3;exact⟨m',hm,σ3,H3,I3,w3⟩
  | cont=>
   obtain⟨σ3,H3,I3,n3⟩:=q3;obtain⟨m',hm,w3⟩:=hN σ3 H3 n3;exact⟨m',hm,σ3,H3,I3,w3⟩
  | brk=>exact q3
  | ret v=>exact q3
 | false=>
  rw[if_neg zAi];exact wpAny_execs_nil ⟨σ1,H2,I2,q2⟩
end
structure It where
 go:Nat->Hp->Prop
 yld:Nat->Hp->V->Hp->Prop
 stop:Nat->Hp->Prop
def Jx (X:Cx) (pins:List (Addr×Obj)) (H:Hp) (b:Addr):Prop:=
 H b=none/\b≠X.env.locals/\b∉X.fs/\(b∈X.ex\/X.s₀.heap.objs.size<=b)/\(∀ x c,X.env.cells.lookup x=some c->c≠b)/\∀ p∈X.pn++pins,p.1≠b
theorem Inv.fpOk {X:Cx} {pins:List (Addr×Obj)} {σ:St} {H H':Hp} {s:Shared} {b:Addr} (I:Inv X pins σ H s) (hb:s.heap.objs.size<=b) (hn:H' b=none):Jx X pins H' b:=by
 refine⟨hn,zAG (zAt I.lt hb),I.nofs hb,.inr (zAE I.sz hb),fun x c e z=>?_,fun p hp z=>?_⟩
 ·obtain⟨v,q⟩:=I.cell x c e
  exact absurd (zAt q.lt (by rw[z]; exact hb)) (zBx _)
 ·exact absurd (zAt (zAr (I.pin p hp).1) (by rw[z]; exact hb)) (zBx _)
structure Um (P:Program) (w:World) (K:zAb) (tg:Expr) (J:It) (fp:List Addr) (it:Addr) (tn:Nat->Heap->Prop):Prop where
 mem:it∈fp
 obj:∀ i h,tn i h->∀ b∈fp,∃ o,h.get? b=some o/\∀ v,o.data ≠ .cell v
 keep:∀ i h h',tn i h->(∀ b∈fp,∀ o,h.get? b=some o->h'.get? b=some o)->tn i h'
 item:∀ (X:Cx),X.prog=P->X.w=w->X.K=K->X.calm=true->∀ (i:Nat) (pins:List (Addr×Obj)) (s:Shared) (σ:St) (H:Hp) (E:Value->Shared->Prop),Inv X pins σ H s->(∀ b∈fp,Jx X pins H b)->tn i s.heap->J.go i H ->
  wpAny (model P w) X.A (pyNext (.ref it)) (fun r s1=>∃ u,r=some u /\
   wpAny (model P w) X.A (letOwnedTupleGo tg (.ref it) u) (fun _ s2=>∃ x H',Inv X pins σ H' s2/\RelV x u/\J.yld i H x H'/\tn (i+1) s2.heap/\∀ b∈fp,H' b=none) E s1) E s
 done:∀ (X:Cx),X.prog=P->X.w=w->X.K=K->X.calm=true->∀ (i:Nat) (pins:List (Addr×Obj)) (s:Shared) (σ:St) (H:Hp) (E:Value->Shared->Prop),Inv X pins σ H s->(∀ b∈fp,Jx X pins H b)->tn i s.heap->J.stop i H ->
  wpAny (model P w) X.A (pyNext (.ref it)) (fun r s1=>r=none/\Inv X pins σ H s1) E s
 self:∀ (A:Around) (i:Nat) (s:Shared) (Q:Value->Shared->Prop) (E:Value->Shared->Prop),tn i s.heap->Q (.ref it) s->wpAny (model P w) A (pyIter (.ref it)) Q E s
abbrev TI:=St->Hp->(It->Hp->Prop)->Prop
def HU (X:Cx) (pins:List (Addr×Obj)) (σ:St) (tg:Expr) (R:It->Hp->Prop) (itv:Value) (s2:Shared):Prop:=
 ∃ (it:Addr) (fp:List Addr) (tn:Nat->Heap->Prop) (J:It) (H':Hp),itv = .ref it/\Inv X pins σ H' s2/\Um X.prog X.w X.K tg J fp it tn/\tn 0 s2.heap/\(∀ b∈fp,Jx X pins H' b)/\R J H'
def PI (X:Cx) (tg iter:Expr) (wi:TI):Prop:=
 ∀ (pins:List (Addr×Obj)) (s:Shared) (σ:St) (H:Hp) (R:It->Hp->Prop),Inv X pins σ H s->wi σ H R ->
  wpAny (model X.prog X.w) X.A (eval iter X.env) (fun v s1=>wpAny (model X.prog X.w) X.A (pyIter v) (HU X pins σ tg R) X.xe s1) X.xe s
theorem Sz {M:Model} {A:Around} {E:Value->Shared->Prop} {s:Shared} {tg:Expr} {it:Addr} {u:Value} {o:Obj} {n:String} {vs:Array Value} {Q:Unit->Shared->Prop} (ho:s.heap.get? it=some o) (hc:o.cls = .type n) (hd:o.data = .fields vs)
  (hn:["enumerate", "zip", "dict_itemiterator", "dict_reverseitemiterator", "odict_iterator", "itertools.zip_longest", "itertools.pairwise"].contains n=false) (hQ:Q () s):wpAny M A (letOwnedTupleGo tg (.ref it) u) Q E s:=by
 unfold letOwnedTupleGo;cases tg <;> first
  | exact zCq hQ
  | (cases u <;> first
    | exact zCq hQ
    | (refine zCp (wpAny_load ho ?_)
       rw[hc,hd];show wpAny M A (if (["enumerate", "zip", "dict_itemiterator", "dict_reverseitemiterator", "odict_iterator", "itertools.zip_longest", "itertools.pairwise"].contains n&&vs[0]?==some (rawInt _))=true then _ else _) Q E s;rw[if_neg (by intro h; rw[hn,Bool.false_and] at h; cases h)];exact zCq hQ))
def CW (K:zAb) (a:Addr):It:=
 ⟨fun i H=>∃ xs x,SqL K H a xs/\xs[i]?=some x,fun i H x H'=>H'=H/\∀ xs,SqL K H a xs->xs[i]?=some x,fun i H=>∃ xs,SqL K H a xs/\xs.length<=i⟩
def AV (lo:Int) (n:Nat):It:=⟨fun i _=>i<n,fun i H x H'=>H'=H/\x = .int (lo+i),fun i _=>n<=i⟩
theorem M5 {P:Program} {w:World} {K:zAb} {tg:Expr} (a it:Addr):Um P w K tg (CW K a) [it] it (fun i h=>h.IsListIter it a i) where
 mem:=by simp
 obj:=fun i h st b hb=>by
  have e:b=it:=by simpa using hb
  subst e;obtain⟨o,e,c,d⟩:=st;exact⟨o,e,fun v z=>by rw[d] at z; cases z⟩
 keep:=fun i h h' st k=>st.at fun o e=>k it (by simp) o e
 item:=by
  intro X hP hw hK hc i pins s σ H E I hf st hg;subst hP hw hK;obtain⟨xs,x,hq,hx⟩:=hg;obtain⟨its,rv,p,hz⟩:=I.list hq;obtain⟨u,hu,ru⟩:=rv.get hx;obtain⟨f0,f1,f2,f3,f4,f5⟩:=hf it (by simp);refine wpAny_pyNext_list_item st p.isList (x:=u) (by simpa using hu) fun h' st' sb=>?_;have I1:Inv X pins σ H { s with heap:=h' }:=I.turned (t':=s.toks) (fun b o hb e=>(sb.2 b hb).trans e) f0 f1 f3 f4 f5;obtain⟨o,e,c,d⟩:=id st';exact⟨u,rfl,Sz (s:={ s with heap:=h' }) e c d (by decide) ⟨x,H,I1,ru,⟨rfl,fun ys hy=>by rw[I.list_inj hy hq]; exact hx⟩,st',fun b hb=>(hf b hb).1⟩⟩
 done:=by
  intro X hP hw hK hc i pins s σ H E I hf st hg;subst hP hw hK;obtain⟨xs,hq,hx⟩:=hg;obtain⟨its,rv,p,hz⟩:=I.list hq;obtain⟨f0,f1,f2,f3,f4,f5⟩:=hf it (by simp);have hl:=rv.length;exact wpAny_pyNext_list_end (I.ok.hd hc) st p.isList (by simp; lia) fun h' eb=>⟨rfl,I.turned (t':=s.toks) (fun b o hb e=>eb b o hb e) f0 f1 f3 f4 f5⟩
 self:=fun _ _ _ _ _ st h=>wpAny_pyIter_listiter st h
theorem Yl {P:Program} {w:World} {K:zAb} {tg:Expr} (it:Addr) (lo:Int) (n:Nat):Um P w K tg (AV lo n) [it] it (fun i h=>IsRangeIter h it (lo+(i:Nat)*1) ((n:Int)-(i:Nat)) 1) where
 mem:=by simp
 obj:=fun i h st b hb=>by
  have e:b=it:=by simpa using hb
  subst e;exact⟨_,st,fun v z=>by
   have z':Data.fields _=Data.cell v:=z;cases z'⟩
 keep:=fun i h h' st k=>k it (by simp) _ st
 item:=by
  intro X hP hw hK hc i pins s σ H E I hf st hg;subst hP hw hK;obtain⟨f0,f1,f2,f3,f4,f5⟩:=hf it (by simp);have W:=Walks.range (prog:=X.prog) (w:=X.w) (I.ok.hd hc) it lo 1 n;refine W.item i s _ _ hg st fun v h' tk hv st' kk=>?_;obtain⟨t,rfl⟩:=hv;have I1:Inv X pins σ H { s with heap:=h',toks:=tk }:=I.turned (fun b o hb e=>kk b o (by simpa using hb) e) f0 f1 f3 f4 f5;refine⟨_,rfl,Sz (s:={ s with heap:=h',toks:=tk }) (n := "range_iterator") st' rfl rfl (by decide) ⟨.int (lo+i),H,I1,⟨t,?_⟩,⟨rfl,rfl⟩,st',fun b hb=>(hf b hb).1⟩⟩;rw[Int.mul_one]
 done:=by
  intro X hP hw hK hc i pins s σ H E I hf st hg;subst hP hw hK;obtain⟨f0,f1,f2,f3,f4,f5⟩:=hf it (by simp);exact wpAny_pyNext_range_end (I.ok.hd hc) st (by have:n<=i:=hg; lia) fun h' eb=>⟨rfl,I.turned (t':=s.toks) (fun b o hb e=>eb b o hb e) f0 f1 f3 f4 f5⟩
 self:=fun _ _ _ _ _ st h=>wpAny_pyIter_rangeiter st h
section
variable {X:Cx} {tg:Expr}
def BN (K:zAb) (tl:TE):TI:=fun σ H R=>tl σ H fun x H1=>∃ a,x = .ref a/\(∃ xs,SqL K H1 a xs)/\R (CW K a) H1
theorem Bn {l:Expr} {tl:TE} (hl:PE X l tl):PI X tg l (BN X.K tl):=by
 intro pins s σ H R I h;refine Cn (hl pins s σ H _ I h) fun v s1 ⟨x,H1,I1,r1,q1⟩=>?_;obtain⟨a,e,⟨xs,hq⟩,q⟩:=q1;subst e;cases r1;obtain⟨its,rv,p,hz⟩:=I1.list hq;refine wpAny_pyIter_list p.isList ?_;refine⟨s1.heap.objs.size,[s1.heap.objs.size],_,_,H1,rfl,I1.kept (t':=s1.toks) fun b o e=>zAc _ e,M5 a _,⟨_,zAv _ rfl,rfl,rfl⟩,fun b hb=>?_,q⟩;have e:b=s1.heap.objs.size:=by simpa using hb
 subst e;exact I1.fpOk (zAg _) (I1.hok.fresh (zAg _))
theorem P3 {pins:List (Addr×Obj)} {σ:St} {H:Hp} {s:Shared} {R:It->Hp->Prop} {E:Value->Shared->Prop} {lo hi:Int} {t u v:Tok} {tk:Nat} (I:Inv X pins σ H s) (h1 : -(2^62)<=lo) (h2:lo<2^62) (h3 : -(2^62)<=hi) (h4:hi<2^62)
  (q:R (AV lo (hi-lo).toNat) H):wpAny (model X.prog X.w) X.A (pyIter (.ref s.heap.objs.size)) (HU X pins σ tg R) E { s with heap:=s.heap.push { cls:=.type "range",data:=.fields #[.int lo t,.int hi u,.int 1 v] },toks:=tk }:=by
 refine wpAny_pyIter_range (IsRange.new ..) (small_one h1 h2 h3 h4) ?_;have I1:Inv X pins σ H { s with heap:=s.heap.push { cls:=.type "range",data:=.fields #[.int lo t,.int hi u,.int 1 v] },toks:=tk }:=I.kept fun b o e=>zAc _ e;refine⟨(s.heap.push { cls:=.type "range",data:=.fields #[.int lo t,.int hi u,.int 1 v] }).objs.size,[(s.heap.push { cls:=.type "range",data:=.fields #[.int lo t,.int hi u,.int 1 v] }).objs.size],_,_,H,rfl,
  I1.kept (t':=tk) fun b o e=>zAc _ e,Yl _ lo (hi-lo).toNat,?_,fun b hb=>?_,q⟩
 ·have e1:lo+((0:Nat):Int)*1=lo:=by simp
  have e2:(((hi-lo).toNat:Nat):Int)-((0:Nat):Int)=Builtin.Range.rangeSize lo hi 1:=by rw[rangeSize_one]; split <;> lia
  show IsRangeIter _ _ (lo+((0:Nat):Int)*1) ((((hi-lo).toNat:Nat):Int)-((0:Nat):Int)) 1;rw[e1,e2];exact zAv _ rfl
 ·have e:b=(s.heap.push { cls:=.type "range",data:=.fields #[.int lo t,.int hi u,.int 1 v] }).objs.size:=by simpa using hb
  subst e;exact I1.fpOk (zAg _) (I1.hok.fresh (zAg _))
def FU (ta:TA):TI:=fun σ H R=>ta σ H fun vs H1=>∃ j:Int,vs=[.int j]/\-(2^62)<=j/\j<2^62/\R (AV 0 j.toNat) H1
theorem Di {a:Expr} {ta:TA} {p pos:Pos} (hg:Gl X "range") (hm:X.mg "range" = none) (ha:PA X [a] ta) (hs:starEach [a] X.env=[(false,eval a X.env)]:=by rfl):PI X tg (.Call (.Name "range" p) [a] [] pos) (FU ta):=by
 intro pins s σ H R I h;refine Call_ (Dy I hg hm boot_range (PyProof.Rows.callWith_type1 (Cn (ha pos pins s σ H _ I h) fun us s1 ⟨vs,H1,I1,r1,q1⟩=>?_) hs rfl));obtain⟨j,e,q1,q2,q⟩:=q1;subst e;cases r1 with
 | cons r rr=>
  cases rr
  obtain⟨t,rfl⟩:=r;exact call_range_1 (P3 I1 (by lia) (by lia) q1 q2 (by simpa using q))
def FE (wi:TI) (g:TG) (tb:TS):TS:=fun D σ H=>wi σ H fun J H1=>∃ W:Nat->Nat->St->Hp->Prop,(∃ m,W 0 m σ H1)/\∀ i m σ H,W i m σ H ->
 (J.stop i H/\D.nx σ H)\/(J.go i H/\∃ N:St->Hp->Prop,(∀ σ' H',N σ' H'->∃ m',m'<m/\W (i+1) m' σ' H')/\∀ x H',J.yld i H x H'->g x σ H' fun σ2 H2=>tb { D with nx:=N,ct:=N,bk:=D.nx } σ2 H2)
def Qr (fp:List Addr) (h:Heap):List (Addr×Obj):=fp.filterMap fun b=>(h.get? b).map fun o=>(b,o)
theorem Hy {fp:List Addr} {h:Heap} {b:Addr} {o:Obj} (hb:b∈fp) (e:h.get? b=some o):(b,o)∈Qr fp h:=List.mem_filterMap.mpr ⟨b,hb,by rw[e]; rfl⟩
theorem D6 {fp:List Addr} {h:Heap} {p:Addr×Obj} (hp:p∈Qr fp h):p.1∈fp/\h.get? p.1=some p.2:=by
 obtain⟨b,hb,e⟩:=List.mem_filterMap.mp hp;cases q:h.get? b with
 | none=>rw[q] at e; cases e
 | some o=>
  rw[q] at e;have e':(b,o)=p:=Option.some.inj e;subst e';exact⟨hb,q⟩
theorem Inv.pinned {pins:List (Addr×Obj)} {σ:St} {H:Hp} {s:Shared} {fp:List Addr} (I:Inv X pins σ H s) (hf:∀ b∈fp,Jx X pins H b) (ho:∀ b∈fp,∃ o,s.heap.get? b=some o/\∀ v,o.data ≠ .cell v):Inv X (pins++Qr fp s.heap) σ H s:=
 I.pins_of fun p hp=>(zAW.mp hp).elim (fun z=>I.pin p (zAI _ z)) fun z=>by
  obtain⟨hb,e⟩:=D6 z;obtain⟨f0,f1,f2,_⟩:=hf p.1 hb;obtain⟨o,e',d⟩:=ho p.1 hb;rw[e] at e'; cases e';exact⟨e,f0,f1,f2,d⟩
theorem Inv.unpinned {pins pl:List (Addr×Obj)} {σ:St} {H:Hp} {s:Shared} (I:Inv X (pins++pl) σ H s):Inv X pins σ H s:=I.pins_of fun p hp=>I.pin p (zAI _ (zBE _ hp))
theorem Dd {iter:Expr} {body:List Stmt} {wi:TI} {g:TG} {tb:TS} {pos:Pos} (hp:PassesOwn (model X.prog X.w) X.A X.env X.xe) (hc:X.calm=true) (hi:PI X tg iter wi) (hg:PG X tg g) (hb:PSs X body tb)
  (hs:∀ x,foldedSetIterable iter X.env x=pure x:=by intro _; rfl):PS X (.For tg iter body [] pos) (FE wi g tb):=by
 intro pins s σ H D I h;refine wpAny_For (Cn (hi pins s σ H _ I h) fun v s1 h1=>Cn h1 fun itv s2 h2=>?_) hs;obtain⟨it,fp,tn,J,H2,e,I2,T,st2,f2,W,⟨m0,w0⟩,turn⟩:=h2;subst e;have stat:∀ {H':Hp},(∀ b∈fp,H' b=none)->∀ b∈fp,Jx X pins H' b:=fun hn b hb=>⟨hn b hb,(f2 b hb).2⟩;refine codeAny_forLoop_any (fun n s'=>∃ i σ' H',Inv X pins σ' H' s'/\tn i s'.heap/\(∀ b∈fp,H' b=none)/\W i n σ' H') ?_ m0 ⟨0,σ,H2,I2,st2,fun b hb=>(f2 b hb).1,w0⟩;rintro n s3 ⟨i,σ3,H3,I3,st3,fr3,w3⟩;rcases turn i n σ3 H3 w3 with ⟨stop,qn⟩ | ⟨go,N,hN,step⟩
 ·refine wpAny_passesOwn hp (Cn (T.done X rfl rfl rfl hc i pins s3 σ3 H3 X.xe I3 (stat fr3) st3 stop) fun r s4 ⟨hr,I4⟩=>?_)
  subst hr;exact wpAny_execs_nil ⟨σ3,H3,I4,qn⟩
 ·refine wpAny_passesOwn hp (Cn (T.item X rfl rfl rfl hc i pins s3 σ3 H3 X.xe I3 (stat fr3) st3 go) fun r s4 ⟨u,hr,h4⟩=>?_)
  subst hr;refine wpAny_passesOwn hp (Cn h4 fun _ s5 ⟨x,H5,I5,r5,y5,st5,fr5⟩=>?_);have I5':=I5.pinned (stat fr5) (T.obj _ _ st5);refine wpAny_passesOwn hp (Cn (hg _ s5 σ3 H5 x u _ I5' r5 (step x H5 y5)) fun _ s6 ⟨σ6,H6,I6,q6⟩=>?_);refine wpAny_passesOwn hp (Cn (hb _ s6 σ6 H6 _ I6 q6) fun f s7 q7=>?_);have again:∀ {σ7:St} {H7:Hp},Inv X (pins++Qr fp s5.heap) σ7 H7 s7->N σ7 H7->∃ m,m<n/\∃ i σ' H',Inv X pins σ' H' s7/\tn i s7.heap/\(∀ b∈fp,H' b=none)/\W i m σ' H':=fun {σ7 H7} I7 n7=>by
   obtain⟨m',hm,w7⟩:=hN σ7 H7 n7;refine⟨m',hm,i+1,σ7,H7,I7.unpinned,T.keep _ _ _ st5 fun b hb o e=>(I7.pin (b,o) (zAI _ (zAI _ (Hy hb e)))).1,fun b hb=>?_,w7⟩;obtain⟨o,e,d⟩:=T.obj _ _ st5 b hb;exact (I7.pin (b,o) (zAI _ (zAI _ (Hy hb e)))).2.1
  cases f with
  | next=>obtain⟨σ7,H7,I7,n7⟩:=q7; exact again I7 n7
  | cont=>obtain⟨σ7,H7,I7,n7⟩:=q7; exact again I7 n7
  | brk=>obtain⟨σ7,H7,I7,q7⟩:=q7; exact⟨σ7,H7,I7.unpinned,q7⟩
  | ret v=>obtain⟨x7,σ7,H7,I7,r7,q7⟩:=q7; exact⟨x7,σ7,H7,I7.unpinned,r7,q7⟩
end
theorem Cm {K:zAb} {a:Addr} {xs:List V} {g:TG} {tb:TS} {D:Mc} {σ:St} {H:Hp} (Pv:Nat->St->Hp->Prop) (h0:Pv 0 σ H) (hl:∀ i σ H,i<=xs.length->Pv i σ H->SqL K H a xs)
  (hs:∀ i x σ H,xs[i]?=some x->Pv i σ H->g x σ H fun σ2 H2=>tb { D with nx:=Pv (i+1),ct:=Pv (i+1),bk:=D.nx } σ2 H2) (hd:∀ σ H,Pv xs.length σ H->D.nx σ H) :
  ∃ W:Nat->Nat->St->Hp->Prop,(∃ m,W 0 m σ H)/\∀ i m σ H,W i m σ H ->
   ((CW K a).stop i H/\D.nx σ H)\/((CW K a).go i H/\∃ N:St->Hp->Prop,(∀ σ' H',N σ' H'->∃ m',m'<m/\W (i+1) m' σ' H')/\∀ x H',(CW K a).yld i H x H'->g x σ H' fun σ2 H2=>tb { D with nx:=N,ct:=N,bk:=D.nx } σ2 H2):=by
 refine⟨fun i m σ H=>m=xs.length-i/\i<=xs.length/\Pv i σ H,⟨xs.length,by simp,zAC _,h0⟩,?_⟩;rintro i m σ H ⟨rfl,hi,p⟩;have q:=hl i σ H hi p;by_cases hlt:i<xs.length
 ·refine .inr ⟨⟨xs,xs[i],q,by simp [hlt]⟩,Pv (i+1),fun σ' H' p'=>⟨xs.length-(i+1),by lia,rfl,hlt,p'⟩,fun x H' y=>?_⟩
  obtain⟨e,y⟩:=y;subst e;exact hs i x σ _ (y xs q) p
 ·have e:i=xs.length:=by lia
  subst e;exact .inl ⟨⟨xs,q,zAg _⟩,hd σ H p⟩
theorem Jq {lo:Int} {n:Nat} {g:TG} {tb:TS} {D:Mc} {σ:St} {H:Hp} (Pv:Nat->St->Hp->Prop) (h0:Pv 0 σ H)
  (hs:∀ i σ H,i<n->Pv i σ H->g (.int (lo+i)) σ H fun σ2 H2=>tb { D with nx:=Pv (i+1),ct:=Pv (i+1),bk:=D.nx } σ2 H2) (hd:∀ σ H,Pv n σ H->D.nx σ H) :
  ∃ W:Nat->Nat->St->Hp->Prop,(∃ m,W 0 m σ H)/\∀ i m σ H,W i m σ H ->
   ((AV lo n).stop i H/\D.nx σ H)\/((AV lo n).go i H/\∃ N:St->Hp->Prop,(∀ σ' H',N σ' H'->∃ m',m'<m/\W (i+1) m' σ' H')/\∀ x H',(AV lo n).yld i H x H'->g x σ H' fun σ2 H2=>tb { D with nx:=N,ct:=N,bk:=D.nx } σ2 H2):=by
 refine⟨fun i m σ H=>m=n-i/\i<=n/\Pv i σ H,⟨n,by simp,zAC _,h0⟩,?_⟩;rintro i m σ H ⟨rfl,hi,p⟩;by_cases hlt:i<n
 ·refine .inr ⟨hlt,Pv (i+1),fun σ' H' p'=>⟨n-(i+1),by lia,rfl,hlt,p'⟩,fun x H' y=>?_⟩
  obtain⟨e,y⟩:=y;subst e y;exact hs i σ _ hlt p
 ·have e:i=n:=by lia
  subst e;exact .inl ⟨zAg _,hd σ H p⟩
abbrev R2:=V->V->Hp->VK->Prop
def Ir (X:Cx) (f:Value->Value->Sem Value) (r:R2):Prop:=
 ∀ (pins:List (Addr×Obj)) (s:Shared) (σ:St) (H:Hp) (x y:V) (v u:Value) (Q:VK),Inv X pins σ H s->RelV x v->RelV y u->r x y H Q ->
  wpAny (model X.prog X.w) X.A (f v u) (EP X pins σ Q) X.xe s
def Kb (X:Cx) (f:Value) (r:List V->Hp->VK->Prop):Prop:=
 ∀ (pins:List (Addr×Obj)) (s:Shared) (σ:St) (H:Hp) (xs:List V) (us:List Value) (Q:VK),Inv X pins σ H s->Vals xs us->r xs H Q ->
  wpAny (model X.prog X.w) X.A (call f us) (EP X pins σ Q) X.xe s
def Tb (r:R2) (ta tb:TE):TE:=fun σ H Q=>ta σ H fun x H1=>tb σ H1 fun y H2=>r x y H2 Q
def rI (C:Int->Int->Prop) (g:Int->Int->V):R2:=fun x y H Q=>∃ i j,x = .int i/\y = .int j/\C i j/\Q (g i j) H
def W6 (g:Int->Int->V):R2:=fun x y H Q=>∃ i j,x = .int i/\y = .int j/\Q (g i j) H
section
variable {X:Cx} {a b c:Expr} {ta tb tc:TE} {pos:Pos}
theorem CO (ha:PE X a ta) (hb:PE X b tb) {pins:List (Addr×Obj)} {s:Shared} {σ:St} {H:Hp} {R:V->V->Hp->Prop} (I:Inv X pins σ H s)
  (h:ta σ H fun x H1=>tb σ H1 fun y H2=>R x y H2) {Q:Value->Shared->Prop} {f:Value->Value->Sem Value}
  (hf:∀ v u s2 x y H2,Inv X pins σ H2 s2->RelV x v->RelV y u->R x y H2->wpAny (model X.prog X.w) X.A (f v u) Q X.xe s2) :
  wpAny (model X.prog X.w) X.A (eval a X.env) (fun v s₁ => wpAny (model X.prog X.w) X.A (eval b X.env) (fun u s₂ => wpAny (model X.prog X.w) X.A (f v u) Q X.xe s₂) X.xe s₁) X.xe s:=by
 refine Cn (ha pins s σ H _ I h) fun v s1 ⟨x,H1,I1,r1,q1⟩=>?_;refine Cn (hb pins s1 σ H1 _ I1 q1) fun u s2 ⟨y,H2,I2,r2,q2⟩=>?_;exact hf v u s2 x y H2 I2 r1 r2 q2
theorem Ao {op:Operator} {r:R2} (ho:Ir X (binaryOp op) r) (ha:PE X a ta) (hb:PE X b tb):PE X (.BinOp a op b pos) (Tb r ta tb):=by
 intro pins s σ H Q I h;exact wpAny_BinOp (CO ha hb I h fun v u s2 x y H2 I2 rx ry q=>ho pins s2 σ H2 x y v u Q I2 rx ry q)
theorem GE {f:Value->Value->Sem Value} {C:Int->Int->Prop} {g:Int->Int->Int}
  (rule:∀ (i j:Int) (t u:Tok) (s:Shared) (Q:Value->Shared->Prop) (E:Value->Shared->Prop),C i j->Q (.int (g i j) s.toks) { s with toks:=s.toks+1 }->wpAny (model X.prog X.w) X.A (f (.int i t) (.int j u)) Q E s) :
  Ir X f (rI C fun i j=>.int (g i j)):=by
 intro pins s σ H x y v u Q I rx ry h;obtain⟨i,j,rfl,rfl,hc,q⟩:=h;obtain⟨t,rfl⟩:=rx;obtain⟨t',rfl⟩:=ry;exact rule i j t t' s _ _ hc ⟨.int (g i j),H,I.tok _,⟨_,rfl⟩,q⟩
theorem EY {f:Value->Value->Sem Value} {g:Int->Int->Int}
  (rule:∀ (i j:Int) (t u:Tok) (s:Shared) (Q:Value->Shared->Prop) (E:Value->Shared->Prop),Q (.int (g i j) s.toks) { s with toks:=s.toks+1 }->wpAny (model X.prog X.w) X.A (f (.int i t) (.int j u)) Q E s) :
  Ir X f (W6 fun i j=>.int (g i j)):=by
 intro pins s σ H x y v u Q I rx ry h;obtain⟨i,j,rfl,rfl,q⟩:=h;obtain⟨t,rfl⟩:=rx;obtain⟨t',rfl⟩:=ry;exact rule i j t t' s _ _ ⟨.int (g i j),H,I.tok _,⟨_,rfl⟩,q⟩
theorem Z1 {f:Value->Value->Sem Value} {g:Int->Int->Bool}
  (rule:∀ (i j:Int) (t u:Tok) (s:Shared) (Q:Value->Shared->Prop) (E:Value->Shared->Prop),Q (.bool (g i j)) s->wpAny (model X.prog X.w) X.A (f (.int i t) (.int j u)) Q E s) :
  Ir X f (W6 fun i j=>.bl (g i j)):=by
 intro pins s σ H x y v u Q I rx ry h;obtain⟨i,j,rfl,rfl,q⟩:=h;obtain⟨t,rfl⟩:=rx;obtain⟨t',rfl⟩:=ry;exact rule i j t t' s _ _ ⟨.bl (g i j),H,I,rfl,q⟩
def GV (i j:Int):Prop:=0<j/\j<1073741824
def EL (i j:Int):Prop:=0<=j/\j<=1000000/\i.natAbs<2^64
def CMul (i j:Int):Prop:=(-(2^64)<i/\i<2^64)\/(-(2^64)<j/\j<2^64)
theorem CMul.ok {i j:Int} (h:CMul i j):IntMulOk i j:=by
 rcases h with ⟨h1,h2⟩ | ⟨h1,h2⟩
 ·exact .of_left (intBits_le_64 h1 h2)
 ·exact .of_right (intBits_le_64 h1 h2)
theorem Ca:Ir X (binaryOp .Add) (W6 fun i j=>.int (i+j)):=EY fun _ _ _ _ _ _ _ q=>add_int q
theorem Fy:Ir X (binaryOp .Sub) (W6 fun i j=>.int (i-j)):=EY fun _ _ _ _ _ _ _ q=>sub_int q
theorem Fe:Ir X (binaryOp .Mult) (rI CMul fun i j=>.int (i*j)):=GE fun _ _ _ _ _ _ _ hc q=>mul_int q hc.ok
theorem By:Ir X (binaryOp .FloorDiv) (rI GV fun i j=>.int (i/j)):=GE fun i j _ _ _ _ _ hc q=>by
 have h1:(0:Int)<j:=hc.1;have h2:j<1073741824:=hc.2;exact floordiv_int (by lia) (by rw[Int.fdiv_eq_ediv_of_nonneg i (by lia)]; exact q) (.inl (PyProof.noPylong_small (by lia)))
theorem Br:Ir X (binaryOp .Mod) (rI (fun _ j=>0<j) fun i j=>.int (i%j)):=GE fun i j _ _ _ _ _ hc q=>by
 have h1:(0:Int)<j:=hc;exact mod_int' (by lia) (by rw[Int.fmod_eq_emod_of_nonneg i (by lia)]; exact q)
theorem Hw:Ir X (binaryOp .Pow) (rI EL fun i j=>.int (i^j.toNat)):=GE fun _ _ _ _ _ _ _ hc q=>pow_int_small hc.1 hc.2.1 hc.2.2 q
def EX:V->V->Bool
 | .non,.non=>true | .non,.int _=>true | .int _,.non=>true | .non,.bl _=>true | .bl _,.non=>true | .non,.str _=>true | .str _,.non=>true
 | .int _,.int _=>true | .bl _,.bl _=>true | .str _,.str _=>true | .byt _,.byt _=>true
 | .int _,.str _=>true | .str _,.int _=>true | .bl _,.str _=>true | .str _,.bl _=>true
 | _,_=>false
def HP:R2:=fun x y H Q=>EX x y=true/\Q (.bl (decide (x=y))) H
def ID:R2:=fun x y H Q=>EX x y=true/\Q (.bl (!decide (x=y))) H
theorem B5 {i j:Int}:decide (V.int i=V.int j)=(i==j):=by
 rw[zBF];simp
theorem R6 {i j:Bool}:decide (V.bl i=V.bl j)=(i==j):=by
 rw[zBF];simp
theorem Zy {i j:Str}:decide (V.str i=V.str j)=(i==j):=by
 rw[zBF];simp
theorem A4 {i j:Array UInt8}:decide (V.byt i=V.byt j)=(i.toList==j.toList):=by
 rw[zBF];cases i;cases j;simp
theorem Cb {pins:List (Addr×Obj)} {σ:St} {H:Hp} {s:Shared} {Q:VK} {k k':Bool} (I:Inv X pins σ H s) (q:Q (.bl k) H) (e:k=k'):EP X pins σ Q (.bool k') s:=by
 subst e;exact⟨.bl k,H,I,rfl,q⟩
theorem Db:Ir X (compareOp .Eq) HP:=by
 intro pins s σ H x y v u Q I rx ry h;obtain⟨hs,q⟩:=h;cases x with
 | non=>
  cases rx
  cases y with
  | non=>cases ry; exact PySem.EqNone.eq_none_none (Cb I q (by simp))
  | bl j=>cases ry; exact PySem.EqNone.eq_none_bool (Cb I q (by simp))
  | int j=>obtain⟨t',rfl⟩:=ry; exact PySem.EqNone.eq_none_int (Cb I q (by simp))
  | str j=>obtain⟨t',rfl⟩:=ry; exact PySem.EqNone.eq_none_str (Cb I q (by simp))
  | _=>exact absurd (show false=true from hs) zAi
 | bl i=>
  cases rx
  cases y with
  | non=>cases ry; exact PySem.EqNone.eq_bool_none (Cb I q (by simp))
  | bl j=>cases ry; exact eq_bool (Cb I q R6)
  | str j=>obtain⟨t',rfl⟩:=ry; exact PySem.EqMixed.eq_bool_str (Cb I q (by simp))
  | _=>exact absurd (show false=true from hs) zAi
 | int i=>
  obtain⟨t,rfl⟩:=rx;cases y with
  | non=>cases ry; exact PySem.EqNone.eq_int_none (Cb I q (by simp))
  | int j=>obtain⟨t',rfl⟩:=ry; exact eq_int (Cb I q B5)
  | str j=>obtain⟨t',rfl⟩:=ry; exact PySem.EqMixed.eq_int_str (Cb I q (by simp))
  | _=>exact absurd (show false=true from hs) zAi
 | str i=>
  obtain⟨t,rfl⟩:=rx;cases y with
  | non=>cases ry; exact PySem.EqNone.eq_str_none (Cb I q (by simp))
  | bl j=>cases ry; exact PySem.EqMixed.eq_str_bool (Cb I q (by simp))
  | int j=>obtain⟨t',rfl⟩:=ry; exact PySem.EqMixed.eq_str_int (Cb I q (by simp))
  | str j=>obtain⟨t',rfl⟩:=ry; exact eq_str (Cb I q Zy)
  | _=>exact absurd (show false=true from hs) zAi
 | byt i=>
  obtain⟨t,rfl⟩:=rx;cases y with
  | byt j=>obtain⟨t',rfl⟩:=ry; exact PySem.W.eq_bytes (Cb I q A4)
  | _=>exact absurd (show false=true from hs) zAi
 | _=>cases y <;> exact absurd (show false=true from hs) zAi
theorem Lq:Ir X (compareOp .NotEq) ID:=by
 intro pins s σ H x y v u Q I rx ry h;obtain⟨hs,q⟩:=h;cases x with
 | non=>
  cases rx
  cases y with
  | non=>cases ry; exact PySem.EqNone.ne_none_none (Cb I q (by simp))
  | bl j=>cases ry; exact PySem.EqNone.ne_none_bool (Cb I q (by simp))
  | int j=>obtain⟨t',rfl⟩:=ry; exact PySem.EqNone.ne_none_int (Cb I q (by simp))
  | str j=>obtain⟨t',rfl⟩:=ry; exact PySem.EqNone.ne_none_str (Cb I q (by simp))
  | _=>exact absurd (show false=true from hs) zAi
 | bl i=>
  cases rx
  cases y with
  | non=>cases ry; exact PySem.EqNone.ne_bool_none (Cb I q (by simp))
  | bl j=>cases ry; exact ne_bool (Cb I q (congrArg not R6))
  | str j=>obtain⟨t',rfl⟩:=ry; exact PySem.EqMixed.ne_bool_str (Cb I q (by simp))
  | _=>exact absurd (show false=true from hs) zAi
 | int i=>
  obtain⟨t,rfl⟩:=rx;cases y with
  | non=>cases ry; exact PySem.EqNone.ne_int_none (Cb I q (by simp))
  | int j=>obtain⟨t',rfl⟩:=ry; exact ne_int (Cb I q (congrArg not B5))
  | str j=>obtain⟨t',rfl⟩:=ry; exact PySem.EqMixed.ne_int_str (Cb I q (by simp))
  | _=>exact absurd (show false=true from hs) zAi
 | str i=>
  obtain⟨t,rfl⟩:=rx;cases y with
  | non=>cases ry; exact PySem.EqNone.ne_str_none (Cb I q (by simp))
  | bl j=>cases ry; exact PySem.EqMixed.ne_str_bool (Cb I q (by simp))
  | int j=>obtain⟨t',rfl⟩:=ry; exact PySem.EqMixed.ne_str_int (Cb I q (by simp))
  | str j=>obtain⟨t',rfl⟩:=ry; exact ne_str (Cb I q (congrArg not Zy))
  | _=>exact absurd (show false=true from hs) zAi
 | byt i=>
  obtain⟨t,rfl⟩:=rx;cases y with
  | byt j=>obtain⟨t',rfl⟩:=ry; exact PySem.W.ne_bytes (Cb I q (congrArg not A4))
  | _=>exact absurd (show false=true from hs) zAi
 | _=>cases y <;> exact absurd (show false=true from hs) zAi
theorem Ip:Ir X (compareOp .Lt) (W6 fun i j=>.bl (decide (i<j))):=Z1 fun _ _ _ _ _ _ _ q=>lt_int q
theorem Ge:Ir X (compareOp .LtE) (W6 fun i j=>.bl (decide (i<=j))):=Z1 fun _ _ _ _ _ _ _ q=>le_int q
theorem Rc:Ir X (compareOp .Gt) (W6 fun i j=>.bl (decide (j<i))):=Z1 fun _ _ _ _ _ _ _ q=>gt_int q
theorem GA:Ir X (compareOp .GtE) (W6 fun i j=>.bl (decide (j<=i))):=Z1 fun _ _ _ _ _ _ _ q=>ge_int q
theorem T0:Ir X (compareOp .Is) (fun x y H Q=>y = .non/\Q (.bl (decide (x = .non))) H):=by
 intro pins s σ H x y v u Q I rx ry h;obtain⟨rfl,q⟩:=h;cases ry;refine is_none_gen (Cb I q ?_);cases x <;> first
  | (cases rx; rfl)
  | (obtain⟨t,rfl⟩:=rx; rfl)
theorem Bd (b:Expr) {op:CmpOp} (h:op ≠ .In:=by decide) (h2:op ≠ .NotIn:=by decide):behindInMarks op b=false:=by
 have e1:(op==CmpOp.In)=false:=by cases op <;> first | rfl | exact absurd rfl h
 have e2:(op==CmpOp.NotIn)=false:=by cases op <;> first | rfl | exact absurd rfl h2
 cases b <;> simp [behindInMarks,e1,e2]
theorem Dg {op:CmpOp} {r:R2} (ho:Ir X (compareOp op) r) (ha:PE X a ta) (hb:PE X b tb) (hm:behindInMarks op b=false):PE X (.Compare a [op] [b] pos) (Tb r ta tb):=by
 intro pins s σ H Q I h;exact wpAny_Compare1 (CO ha hb I h fun v u s2 x y H2 I2 rx ry q=>ho pins s2 σ H2 x y v u Q I2 rx ry q) hm
def C0 (t:TE):TT:=fun σ H Q=>t σ H fun x H'=>∃ k,x = .bl k/\Q k H'
theorem Ay {op:CmpOp} {r:R2} (ho:Ir X (compareOp op) r) (ha:PE X a ta) (hb:PE X b tb) (hm:behindInMarks op b=false):PT X (.Compare a [op] [b] pos) (C0 (Tb r ta tb)):=by
 intro pins s σ H Q I h;refine wpAny_isTrue_Compare1 (Cn (ha pins s σ H _ I h) fun v s1 ⟨x,H1,I1,r1,q1⟩=>Cn (hb pins s1 σ H1 _ I1 q1) fun u s2 ⟨y,H2,I2,r2,q2⟩=>
  Cn (ho pins s2 σ H2 x y v u _ I2 r1 r2 q2) fun c s3 ⟨z,H3,I3,r3,k,e,q3⟩=>?_) hm
 subst e;cases r3;exact wpAny_truthy_bool ⟨H3,I3,q3⟩
def O2 (r r':R2) (ta tb tc:TE):TE:=fun σ H Q=>ta σ H fun x H1=>tb σ H1 fun y H2=>r x y H2 fun z H3=>∃ k,z = .bl k /\
 (if k=true then tc σ H3 fun w' H4=>r' y w' H4 Q else Q (.bl false) H3)
theorem Po {op op':CmpOp} {r r':R2} (ho:Ir X (compareOp op) r) (ho':Ir X (compareOp op') r') (ha:PE X a ta) (hb:PE X b tb) (hc:PE X c tc)
  (hm:lastMarks [op,op'] [b,c]=false:=by with_unfolding_all rfl):PE X (.Compare a [op,op'] [b,c] pos) (O2 r r' ta tb tc):=by
 intro pins s σ H Q I h;refine Compare_chain (Cn (ha pins s σ H _ I h) fun v s1 ⟨x,H1,I1,r1,q1⟩=>chain_link (Cn (hb pins s1 σ H1 _ I1 q1) fun u s2 ⟨y,H2,I2,r2,q2⟩=>
  Cn (ho pins s2 σ H2 x y v u _ I2 r1 r2 q2) fun d s3 ⟨z,H3,I3,r3,k,e,q3⟩=>?_)) hm
 subst e;cases r3;refine wpAny_truthy_bool ?_;cases k with
 | false=>exact ite_ff ⟨.bl false,H3,I3,rfl,q3⟩
 | true=>exact ite_tt (chain_last (Cn (hc pins s3 σ H3 _ I3 q3) fun w' s4 ⟨z',H4,I4,r4,q4⟩=>ho' pins s4 σ H4 y z' u w' Q I4 r2 r4 q4))
theorem Iz {op op':CmpOp} {r r':R2} (ho:Ir X (compareOp op) r) (ho':Ir X (compareOp op') r') (ha:PE X a ta) (hb:PE X b tb) (hc:PE X c tc)
  (hm:lastMarks [op,op'] [b,c]=false:=by with_unfolding_all rfl):PT X (.Compare a [op,op'] [b,c] pos) (C0 (O2 r r' ta tb tc)):=by
 intro pins s σ H Q I h;refine isTrue_chain (Cn (ha pins s σ H _ I h) fun v s1 ⟨x,H1,I1,r1,q1⟩=>test_link (Cn (hb pins s1 σ H1 _ I1 q1) fun u s2 ⟨y,H2,I2,r2,q2⟩=>
  Cn (ho pins s2 σ H2 x y v u _ I2 r1 r2 q2) fun d s3 ⟨z,H3,I3,r3,k,e,q3⟩=>?_)) hm
 subst e;cases r3;refine wpAny_truthy_bool ?_;cases k with
 | false=>
  obtain⟨k',e',q'⟩:=q3;cases e';exact ite_ff ⟨H3,I3,q'⟩
 | true=>
  refine ite_tt (test_last (Cn (hc pins s3 σ H3 _ I3 q3) fun w' s4 ⟨z',H4,I4,r4,q4⟩=>Cn (ho' pins s4 σ H4 y z' u w' _ I4 r2 r4 q4) fun d' s5 ⟨z2,H5,I5,r5,k2,e2,q5⟩=>?_));subst e2;cases r5;exact wpAny_truthy_bool ⟨H5,I5,q5⟩
theorem Ml:(sizeLine:Nat)<2^63:=by rw[zCr]; decide
theorem Ke:Ir X (binaryOp .Add) (fun x y H Q=>∃ i j,x = .str i/\y = .str j/\i.length+j.length<=sizeLine/\Q (.str (i++j)) H):=by
 intro pins s σ H x y v u Q I rx ry h;obtain⟨i,j,rfl,rfl,hz,q⟩:=h;obtain⟨t,rfl⟩:=rx;obtain⟨t',rfl⟩:=ry;exact add_str (fun t' tk=>⟨.str (i++j),H,I.tok _,⟨_,rfl⟩,q⟩) hz
theorem Lk {x:V} {us:List Value} (r:Vals [x] us):∃ u,us=[u]/\RelV x u:=by
 cases r with
 | cons r1 r2=>cases r2; exact⟨_,rfl,r1⟩
theorem BJ {x y:V} {us:List Value} (r:Vals [x,y] us):∃ u w',us=[u,w']/\RelV x u/\RelV y w':=by
 cases r with
 | cons r1 r2=>
  cases r2 with
  | cons r3 r4=>cases r4; exact⟨_,_,rfl,r1,r3⟩
theorem E1 (hc:X.calm=true):Kb X (.builtin "max") (fun xs H Q=>∃ i j,xs=[.int i,.int j]/\Q (.int (if j>i then j else i)) H):=by
 intro pins s σ H xs us Q I r h;obtain⟨i,j,rfl,q⟩:=h;obtain⟨u,w',rfl,⟨t,rfl⟩,⟨t',rfl⟩⟩:=BJ r;refine max_two_ints (I.ok.hd hc) fun h' tk k=>⟨_,H,I.kept k,?_,q⟩;by_cases hj:j>i
 ·rw[if_pos hj,if_pos hj]; exact⟨_,rfl⟩
 ·rw[if_neg hj,if_neg hj]; exact⟨_,rfl⟩
theorem E8:Kb X (.type "int") (fun xs H Q=>(∃ i,xs=[.int i]/\Q (.int i) H)\/∃ k,xs=[.bl k]/\Q (.int (if k then 1 else 0)) H):=by
 intro pins s σ H xs us Q I r h;rcases h with ⟨i,rfl,q⟩ | ⟨k,rfl,q⟩
 ·obtain⟨u,rfl,t,rfl⟩:=Lk r
  exact call_int_int ⟨.int i,H,I,⟨_,rfl⟩,q⟩
 ·obtain⟨u,rfl,r1⟩:=Lk r
  cases r1
  exact call_int_bool ⟨.int (if k then 1 else 0),H,I.tok _,⟨_,rfl⟩,q⟩
end
structure ObjM (h:Heap) (x dx C:Addr) (mA:Str->Option Value):Prop where
 obj:h.get? x=some (zBb C dx)
 ns:h.Ns1 dx mA
 ne:dx≠x
set_option tactic.hygienic true in
theorem L9 {h:Heap} {dx:Addr} {mA:Str->Option Value} (n:h.Ns1 dx mA):∃ od,h.get? dx=some od/\∀ name,PySem.W.lookIn name od=some (mA name):=by
 obtain⟨o,es,ep,ho,hd,hk,_,hm⟩:=n;refine⟨o,ho,fun name=>?_⟩;have e:=hm name;unfold nsFind findBy at e;rw[<- Array.find?_toList] at e;unfold PySem.W.lookIn;rw[hd]
 dsimp only
 split
 ·rename_i y q
  rw[q] at e;exact congrArg some e
 ·rename_i q
  rw[q] at e;have a:es.toList.any (·.refKey)=false:=by
   rw[List.any_eq_false];intro y hy;obtain⟨z,t,hkey⟩:=hk y (Array.mem_toList_iff.mp hy);simp [DictEntry.refKey,hkey]
  have a':¬ es.toList.any (·.refKey)=true:=by rw[a]; exact zAi
  rw[if_neg a'];exact congrArg some e
theorem ObjM.look {h:Heap} {x dx C:Addr} {mA:Str->Option Value} (I:ObjM h x dx C mA):∃ od,PySem.W.InstAt h x (zBb C dx) C (some od)/\∀ name,PySem.W.lookIn name od=some (mA name):=
 let ⟨od,ho,hl⟩:=L9 I.ns
 ⟨od,⟨I.obj,rfl,rfl,ho⟩,hl⟩
section
variable {prog:Program} {w:World} {A:Around} {E:Value->Shared->Prop} {s:Shared} {K:zAb} {x dx C f:Addr} {mA:Str->Option Value} {name:Str} {v:Value}
theorem AA {expr:Bool} {Q:Value->Shared->Prop} (X:K.In s.heap) (I:ObjM s.heap x dx C mA) (hg:zBT K C name=true) (hh:zCk K C=true)
  (ha:zAh K (.ref C) name=some none) (hv:mA name=some v) (hv':PySem.W.handedIn v=true) (h:Q v { s with toks:=s.toks+1 }) :
  wpAny (model prog w) A (getAttr (.ref x) name expr) Q E s:=by
 obtain⟨od,J,hl⟩:=I.look;exact PySem.W.get_value X J (PySem.W.plainGet_of hg).1 (PySem.W.findObj_own hh ha rfl (by rw[hl,hv])) hv' h
theorem U5 {pl:Sem Bool} {Q:Value×List Value->Shared->Prop} (X:K.In s.heap) (I:ObjM s.heap x dx C mA) (hg:zBT K C name=true)
  (hf:zAh K (.ref C) name=some (some (.ref f))) (ht:zCf K (.ref f)=true) (hv:mA name=none) (h:Q (.ref f,[.ref x]) s) :
  wpAny (model prog w) A (getMethod (.ref x) name pl) Q E s:=by
 obtain⟨od,J,hl⟩:=I.look;exact PySem.W.method_fn X J (PySem.W.plainGet_of hg).1 (PySem.W.plainGet_of hg).2 hf (beq_iff_eq.mp ht) (by show (PySem.W.lookIn name od).map (·.isSome)=some false; rw[hl,hv]; rfl) h
theorem AJ {ns:List Str} {Q:Unit->Shared->Prop} (X:K.In s.heap) (I:ObjM s.heap x dx C mA)
  (hs:zAh K (.ref C) "__setattr__" = some (some (.builtin "object.__setattr__"))) (hp:PySem.W.plainOver K C=true) (ht:PySem.W.takerIn K C name=some none) (hh:zCk K C=true)
  (hw:PySem.Within mA ns) (hsz:ns.length<=sizeLine)
  (h:∀ h',ObjM h' x dx C (fun y=>if y=name then some v else mA y)->zBm dx s.heap h'->Q () { s with heap:=h',toks:=s.toks+2 }) :
  wpAny (model prog w) A (setAttr (.ref x) name v) Q E s:=by
 obtain⟨od,J,hl⟩:=I.look;refine PySem.W.set_plain X J hs (PySem.W.osa_open (s:={ s with toks:=s.toks+1 }) (r:=none) X J hp ht fun b=>?_);obtain⟨cd,hc,hd'⟩:=PySem.W.any_some hh;have hx:s.heap.get? x=some ⟨.ref C,some dx,.plain,#[]⟩:=I.obj;refine zCp (zCq (zCp (zCp (wpAny_loadPart hx (zCp (PySem.W.Looks.here (s:={ s with toks:=s.toks+1 }) (PySem.W.looks_clsIn X hc) ?_))))));rw[hd'];refine zCq (a:=some dx) (zCp (zCq (zCp ?_)));refine wpAny_nsSet1 (s:={ s with toks:=s.toks+1 }) I.ns fun h' hn2 hs2=>?_;obtain⟨oD,esD,epD,hoD,hdD,hcD⟩:=hn2.count (PySem.Within.cons name v hw);refine zCp (wpAny_lookBehind hoD (by rw[hdD]; exact pastItsLine_dict (zAE hcD (by rw[zAj]; lia))) ?_);exact zCq (h _ ⟨(hs2.2 _ (Ne.symm I.ne)).trans I.obj,hn2,I.ne⟩ hs2)
theorem U8 {R:Result->Shared->Prop} {vs:List Value} {kw:List (Str×Value)} (X:K.In s.heap) (hm:zCc K C=true)
  (hi:zAh K (.ref C) "__init__" = some (some (.ref f))) (hf:PySem.W.typeIn K (.ref f)=some (.type "function"))
  (h:codeAny (model prog w) (A.under (.builtin "type.__call__" ⟨.ref C::vs,kw⟩)) (.call (.ref f) ⟨.ref (s.heap.objs.size+1)::vs,kw⟩) (PySem.W.InitBack (s.heap.objs.size+1) R)
   { s with heap:=(s.heap.push zAO).push (zBb C s.heap.objs.size) }) :
  codeAny (model prog w) A (.call (.ref C) ⟨vs,kw⟩) R s:=by
 obtain⟨hh,g,d,t,os⟩:=s;exact PySem.W.make_core (PySem.W.makes_of X hm) (PySem.W.looks_findIn X hi) (fun self=>PySem.W.bind_fn X self hf) (.inl rfl) h
theorem K0 {R:Result->Shared->Prop} (X:K.In s.heap) (hm:zCc K C=true)
  (hi:zAh K (.ref C) "__init__" = some (some (.builtin "object.__init__")))
  (hb:∀ self,PySem.W.Looks (model prog w) s.heap (bindSpecial (.builtin "object.__init__") self) (.builtin "object.__init__",[self]))
  (h:codeAny (model prog w) (A.under (.builtin "type.__call__" ⟨[.ref C],[]⟩)) (.call (.builtin "object.__init__") ⟨[.ref (s.heap.objs.size+1)],[]⟩) (PySem.W.InitBack (s.heap.objs.size+1) R)
   { s with heap:=(s.heap.push zAO).push (zBb C s.heap.objs.size) }) :
  codeAny (model prog w) A (.call (.ref C) ⟨[],[]⟩) R s:=by
 obtain⟨hh,g,d,t,os⟩:=s;exact PySem.W.make_core (PySem.W.makes_of X hm) (PySem.W.looks_findIn X hi) hb (.inr ⟨rfl,rfl⟩) h
end
def Bl (f:Str) (v:V):List (Str×V)->List (Str×V)
 | []=>[(f,v)]
 | (g,x)::r=>if g=f then (g,v)::r else (g,x)::Bl f v r
theorem Bo (f g:Str) (v:V):∀ fs:List (Str×V),(Bl f v fs).lookup g=if g=f then some v else fs.lookup g
 | []=>by
  show zBX g [(f,v)]=_;by_cases h:g=f
  ·have hb:(g==f)=true:=beq_iff_eq.mpr h
   simp only [zBX,hb,if_pos h]
  ·have hb:(g==f)=false:=beq_eq_false_iff_ne.mpr h
   simp only [zBX,hb,if_neg h]
 | (k,x)::r=>by
  have ih:=Bo f g v r;rw[show Bl f v ((k,x)::r)=(if k=f then (k,v)::r else (k,x)::Bl f v r) from rfl];by_cases hk:k=f
  ·rw[if_pos hk]
   by_cases h:g=k
   ·have hb:(g==k)=true:=beq_iff_eq.mpr h
    simp only [zBX,hb,if_pos (h.trans hk)]
   ·have hb:(g==k)=false:=beq_eq_false_iff_ne.mpr h
    simp only [zBX,hb,if_neg (fun e:g=f=>h (e.trans hk.symm))]
  ·rw[if_neg hk]
   by_cases h:g=k
   ·have hb:(g==k)=true:=beq_iff_eq.mpr h
    simp only [zBX,hb,if_neg (fun e:g=f=>hk (h.symm.trans e))]
   ·have hb:(g==k)=false:=beq_eq_false_iff_ne.mpr h
    simp only [zBX,hb];exact ih
theorem Mu (f:Str) (v:V):∀ fs:List (Str×V),f∈(Bl f v fs).map (·.1)/\∀ g,g∈fs.map (·.1)->g∈(Bl f v fs).map (·.1)
 | []=>⟨by simp [Bl],fun g h=>by simp at h⟩
 | (k,x)::r=>by
  obtain⟨i1,i2⟩:=Mu f v r;rw[show Bl f v ((k,x)::r)=(if k=f then (k,v)::r else (k,x)::Bl f v r) from rfl];by_cases hk:k=f
  ·rw[if_pos hk]
   subst hk;exact⟨by simp,fun g h=>by simpa using h⟩
  ·rw[if_neg hk]
   refine⟨?_,fun g h=>?_⟩
   ·rw[zAw]
    exact zAm _ i1
   ·rw[zAw] at h ⊢
    rcases zAq.mp h with e | e
    ·exact zAq.mpr (.inl e)
    ·exact zAm _ (i2 g e)
theorem Oc (f:Str) (v:V):∀ fs:List (Str×V),(Bl f v fs).length<=fs.length+1
 | []=>by simp [Bl]
 | (k,x)::r=>by
  have ih:=Oc f v r;rw[show Bl f v ((k,x)::r)=(if k=f then (k,v)::r else (k,x)::Bl f v r) from rfl];by_cases hk:k=f
  ·rw[if_pos hk,zAj,zAj]; lia
  ·rw[if_neg hk,zAj,zAj]; lia
theorem RelO.some_of {v:V} {o:Option Value} (r:RelO (some v) o):∃ u,o=some u/\RelV v u:=by
 cases o with
 | none=>exact (show False from r).elim
 | some u=>exact⟨u,rfl,r⟩
theorem RelO.none_of {o:Option Value} (r:RelO none o):o=none:=by
 cases o with
 | none=>rfl
 | some u=>exact (show False from r).elim
theorem G3 {v:V} {u:Value} (r:RelV v u):PySem.W.handedIn u=true:=by
 cases v with
 | non=>cases (show u=Value.none from r); rfl
 | bl b=>cases (show u=Value.bool b from r); rfl
 | int i=>obtain⟨t,e⟩:=(show ∃ t,u=Value.int i t from r); cases e; rfl
 | str x=>obtain⟨t,e⟩:=(show ∃ t,u=Value.str x t from r); cases e; rfl
 | byt b=>obtain⟨t,e⟩:=(show ∃ t,u=Value.bytes b t from r); cases e; rfl
 | flt b=>obtain⟨t,e⟩:=(show ∃ t,u=Value.float b t from r); cases e; rfl
 | ref a=>cases (show u=Value.ref a from r); rfl
 | ty n=>cases (show u=Value.type n from r); rfl
section
variable {P:Program} {w:World} {H H':Hp} {h h':Heap} {a C dx:Addr} {fs fs':List (Str×V)}
theorem Pa (hok:HOk P w H h) (e:H a=some (.ins C dx fs)):∃ mA,ObjM h a dx C mA/\(∀ f,RelO (fs.lookup f) (mA f))/\PySem.Within mA (fs.map (·.1))/\fs.length<=1000/\H dx=some (.own a):=by
 obtain⟨d,z,ne,ob,mA,n,r,q⟩:=(show ObjOk P w H h a (.ins C dx fs) from hok a _ e);exact⟨mA,⟨ob,n,ne⟩,r,q,z,d⟩
end
structure Cls (K:zAb) (C:Addr):Prop where
 pg:zBT K C Str.empty=true
 hd:zCk K C=true
 po:PySem.W.plainOver K C=true
 sa:zAh K (.ref C) "__setattr__" = some (some (.builtin "object.__setattr__"))
theorem Cls.get {K:zAb} {C:Addr} (c:Cls K C) (f:Str):zBT K C f=true:=c.pg
def NoAttr (K:zAb) (C:Addr) (f:Str):Prop:=zAh K (.ref C) f=some none
theorem NoAttr.taker {K:zAb} {C:Addr} {f:Str} (n:NoAttr K C f):PySem.W.takerIn K C f=some none:=by
 unfold PySem.W.takerIn;rw[show zAh K (.ref C) f=some none from n];rfl
structure Pm (K:zAb) (C:Addr) (m:Str) (f:Addr):Prop where
 at_:zAh K (.ref C) m=some (some (.ref f))
 fn:zCf K (.ref f)=true
 kp:zAX K (.ref f)=true
section
variable {X:Cx} {pins:List (Addr×Obj)} {σ:St} {H:Hp} {s:Shared} {a C dx:Addr} {fs:List (Str×V)} {f:Str} {v:V} {A:Around} {E:Value->Shared->Prop}
theorem Xy {b:Bool} {Q:Value->Shared->Prop} (I:Inv X pins σ H s) (e:H a=some (.ins C dx fs)) (c:Cls X.K C) (n:NoAttr X.K C f) (l:fs.lookup f=some v)
  (h:∀ u s',Inv X pins σ H s'->RelV v u->Q u s'):wpAny (model X.prog X.w) A (getAttr (.ref a) f b) Q E s:=by
 obtain⟨mA,O,r,_,_,_⟩:=Pa I.hok e;obtain⟨u,hu,ru⟩:=RelO.some_of (v:=v) (o:=mA f) (by rw[<- l]; exact r f);exact AA I.kIn O (c.get f) c.hd n hu (G3 ru) (h u _ (I.tok _) ru)
theorem Pp {m:Str} {g:Addr} {pl:Sem Bool} {Q:Value×List Value->Shared->Prop} (I:Inv X pins σ H s) (e:H a=some (.ins C dx fs)) (c:Cls X.K C) (k:Pm X.K C m g) (l:fs.lookup m=none)
  (h:Q (.ref g,[.ref a]) s):wpAny (model X.prog X.w) A (getMethod (.ref a) m pl) Q E s:=by
 obtain⟨mA,O,r,_,_,_⟩:=Pa I.hok e;have hn:mA m=none:=RelO.none_of (by rw[<- l]; exact r m);exact U5 I.kIn O (c.get m) k.at_ k.fn hn h
theorem Xs {y:V} {u:Value} {Q:Unit->Shared->Prop} (I:Inv X pins σ H s) (e:H a=some (.ins C dx fs)) (c:Cls X.K C) (n:NoAttr X.K C f) (hl:fs.length<1000) (ry:RelV y u)
  (h:∀ s',Inv X pins σ (upd H a (.ins C dx (Bl f y fs))) s'->Q () s'):wpAny (model X.prog X.w) A (setAttr (.ref a) f u) Q E s:=by
 obtain⟨mA,O,r,wi,_,ho⟩:=Pa I.hok e;have hz:(fs.map (·.1)).length<=sizeLine:=by rw[zAa,zCr]; lia
 refine AJ I.kIn O c.sa c.po n.taker c.hd wi hz fun h' O' sb=>h _ ?_;have hd:∃ o,h'.get? dx=some o:=let ⟨o,_,_,e',_⟩:=O'.ns; ⟨o,e'⟩
 refine I.write (x:=a) (e:=dx) (by rw[e]; exact True.intro) (.inr ho) (fun b q hb z=>(sb.2 b hb).trans z) hd ?_;refine⟨by rw[Ar O.ne]; exact ho,?_,O.ne,O'.obj,_,O'.ns,fun g=>?_,fun g hg=>?_⟩
 ·have:=Oc f y fs; lia
 ·show RelO ((Bl f y fs).lookup g) (if g=f then some u else mA g)
  rw[Bo];by_cases q:g=f
  ·rw[if_pos q,if_pos q]; exact ry
  ·rw[if_neg q,if_neg q]; exact r g
 ·by_cases q:g=f
  ·rw[q]; exact (Mu f y fs).1
  ·refine (Mu f y fs).2 g (wi g fun z=>hg ?_)
   show (if g=f then some u else mA g)=none;rw[if_neg q]; exact z
theorem Inv.made (I:Inv X pins σ H s):Inv X pins σ (upd (upd H s.heap.objs.size (.own (s.heap.objs.size+1))) (s.heap.objs.size+1) (.ins C s.heap.objs.size []))
  { s with heap:=(s.heap.push zAO).push (zBb C s.heap.objs.size) }:=by
 have e1:(s.heap.push zAO).get? s.heap.objs.size=some zAO:=zAv s.heap rfl;have e2:((s.heap.push zAO).push (zBb C s.heap.objs.size)).get? (s.heap.objs.size+1)=some (zBb C s.heap.objs.size):=by
  have:=zAv (s.heap.push zAO) (o:=zBb C s.heap.objs.size) rfl
  rwa [zBt] at this
 have e3:(s.heap.push zAO).Ns s.heap.objs.size (fun _=>none):=⟨zAO,#[],_,e1,rfl,(fun e he=>absurd he (by simp)),fun _=>rfl⟩;have I1:=I.laid (a:=s.heap.objs.size) (o:=.own (s.heap.objs.size+1)) (h':=s.heap.push zAO) (t':=s.toks) (fun b u q=>zAc _ q) (zAg _) ⟨_,e1⟩;refine I1.laid (a:=s.heap.objs.size+1) (o:=.ins C s.heap.objs.size []) (t':=s.toks) (fun b u q=>zAc _ q) (Nat.le_of_eq (zBt _ _)) ?_;have ne:s.heap.objs.size≠s.heap.objs.size+1:=zAs (zBy _);refine⟨by rw[Ar ne,Ab],zAC _,ne,e2,fun _=>none,(Heap.Ns1.of_empty e3).at fun o q=>zAc _ q,fun _=>True.intro,fun y hy=>absurd rfl hy⟩
theorem X7 {prog:Program} {w:World} {env:Env} {e:Expr} {f:Str} {pos:Pos} {s:Shared} {Q:Value->Shared->Prop} (hb:attributeBase e f env (eval e env)=eval e env)
  (h:wpAny (model prog w) A (eval e env) (fun o s₁ => wpAny (model prog w) A (getAttr o f true) Q E s₁) E s):wpAny (model prog w) A (eval (.Attribute e f pos) env) Q E s:=
 Attribute_any_ h (by rw[arm_eval_Attribute,hb])
end
def FS (K:zAb) (ta:TE) (f:Str):TE:=fun σ H Q=>ta σ H fun x H1=>∃ a C dx fs v,x = .ref a/\H1 a=some (.ins C dx fs)/\Cls K C/\NoAttr K C f/\fs.lookup f=some v/\Q v H1
def HE (K:zAb) (ta tv:TE) (f:Str):TS:=fun D σ H=>tv σ H fun y H1=>ta σ H1 fun x H2=>∃ a C dx fs,x = .ref a/\H2 a=some (.ins C dx fs)/\Cls K C/\NoAttr K C f/\fs.length<1000 /\
 D.nx σ (upd H2 a (.ins C dx (Bl f y fs)))
section
variable {X:Cx} {o e value:Expr} {f:Str} {pos pos' tpos:Pos} {ta tv:TE}
theorem Er (he:PE X e ta) (hb:attributeBase e f X.env (eval e X.env)=eval e X.env):PE X (.Attribute e f pos) (FS X.K ta f):=by
 intro pins s σ H Q I h;refine X7 hb (Cn (he pins s σ H _ I h) fun u s1 ⟨x,H1,I1,rx,a,C,dx,fs,v,ex,ea,c,n,l,q⟩=>?_);subst ex;obtain rfl:u=Value.ref a:=rx;exact Xy I1 ea c n l fun u' s2 I2 ru=>⟨v,H1,I2,ru,q⟩
theorem Dj (ha:PE X o ta) (hv:PE X value tv) (hs:swapsWith value (some (.Attribute o f pos')) pos.line X.env=pure false):PS X (.Assign [.Attribute o f pos'] value pos) (HE X.K ta tv f):=by
 intro pins s σ H D I h;refine plainObj_wpAny_Assign_Attribute (Cn (hv pins s σ H _ I h) fun u s1 ⟨y,H1,I1,ry,q⟩=>Cn (ha pins s1 σ H1 _ I1 q) fun ov s2 ⟨x,H2,I2,rx,a,C,dx,fs,ex,ea,c,n,l,q2⟩=>?_) hs;subst ex;obtain rfl:ov=Value.ref a:=rx;exact Xs I2 ea c n l ry fun s3 I3=>⟨σ,_,I3,q2⟩
theorem BB {pl:Sem Bool} {m:Str} {apos:Pos} {args:List Expr} {pins:List (Addr×Obj)} {s:Shared} {σ:St} {H:Hp} {Q:Value->Shared->Prop} {te:TE} (he:PE X e te) (I:Inv X pins σ H s)
  (h:te σ H fun x H1=>∃ a C dx fs g,x = .ref a/\H1 a=some (.ins C dx fs)/\Cls X.K C/\Pm X.K C m g/\fs.lookup m=none /\
   ∀ s1,Inv X pins σ H1 s1->wpAny (model X.prog X.w) X.A (callWith pos (.ref g) [.ref a] (backTo pos (starEach args X.env)) (backToKw pos (keywordEach [] X.env))) Q X.xe s1)
  (ht:eval (.Call (.Attribute e m apos) args [] pos) X.env=(do
   let ov <- eval e X.env
   standAt apos.atName
   let (f,first) <- holding [ov] (getMethod ov m pl)
   callWith pos f first (backTo pos (starEach args X.env)) (backToKw pos (keywordEach [] X.env)))) :
  wpAny (model X.prog X.w) X.A (eval (.Call (.Attribute e m apos) args [] pos) X.env) Q X.xe s:=by
 refine PySem.W.methodCall_KW (pl:=pl) (Cn (he pins s σ H _ I h) fun u s1 ⟨x,H1,I1,rx,a,C,dx,fs,g,ex,ea,c,k,l,q⟩=>?_) ht;subst ex;obtain rfl:u=Value.ref a:=rx;exact Pp I1 ea c k l (q s1 I1)
end
section
variable {X:Cx} {pins:List (Addr×Obj)} {σ:St} {H:Hp} {s:Shared} {A:Around} {E:Value->Shared->Prop} {Q:Value->Shared->Prop} {c:Value} {b:Bool}
inductive Iw (K:zAb) (H:Hp):V->Value->Prop where
 | non:Iw K H .non (.type "NoneType")
 | bl (x:Bool):Iw K H (.bl x) (.type "bool")
 | int (i:Int):Iw K H (.int i) (.type "int")
 | str (x:Str):Iw K H (.str x) (.type "str")
 | flt (x:UInt64):Iw K H (.flt x) (.type "float")
 | lst {a:Addr} {xs:List V} (e:H a=some (.lst xs)):Iw K H (.ref a) (.type "list")
 | frz {a:Addr} {o:Obj} {xs:List V} (e:H a=some (.frz o (.lst xs))):Iw K H (.ref a) (.type "list")
 | tup {a:Addr} {xs:List V} (e:H a=some (.tup xs)):Iw K H (.ref a) (.type "tuple")
 | dK {a:Addr} {kvs:List (Fc×V)} (e:H a=some (.dK kvs)):Iw K H (.ref a) (.type "dict")
 | dT {a:Addr} {kvs:List (List Fc×V)} (e:H a=some (.dT kvs)):Iw K H (.ref a) (.type "dict")
 | ins {a C dx:Addr} {fs:List (Str×V)} (e:H a=some (.ins C dx fs)) (cl:Cls K C) (ha:zAh K (.ref C) "__class__" = some (some (.builtin "object.__class__")))
   (hn:PySem.W.specialIn K (.builtin "object.__class__") "__get__" = some (some (.builtin "getset_descriptor.__get__"))) (htk:PySem.W.takesIn K (.builtin "object.__class__")=some true)
   (hm:PySem.W.mroIn K C (.type "object")=some true):Iw K H (.ref a) (.ref C)
theorem G9 {x:V} {u t:Value} (I:Inv X pins σ H s) (rx:RelV x u) (ty:Iw X.K H x t) (e:zBG X.K t c=some b) (h:∀ tk,Q (.bool b) { s with toks:=tk }) :
  wpAny (model X.prog X.w) A (call (.builtin "isinstance") [u,c]) Q E s:=by
 cases ty with
 | non=>cases (show u=Value.none from rx); exact zBk PySem.W.kitx_none I.kIn True.intro e (fun z=>nomatch z) h
 | bl y=>cases (show u=Value.bool y from rx); exact zBk PySem.W.kitx_bool I.kIn True.intro e (fun z=>nomatch z) h
 | int i=>obtain⟨t,q⟩:=(show ∃ t,u=Value.int i t from rx); cases q; exact zBk PySem.W.kitx_int I.kIn True.intro e (fun z=>nomatch z) h
 | str y=>obtain⟨t,q⟩:=(show ∃ t,u=Value.str y t from rx); cases q; exact zBk PySem.W.kitx_str I.kIn True.intro e (fun z=>nomatch z) h
 | flt y=>obtain⟨t,q⟩:=(show ∃ t,u=Value.float y t from rx); cases q; exact zBk PySem.W.kitx_float I.kIn True.intro e (fun z=>nomatch z) h
 | @lst a xs ea=>
  cases (show u=Value.ref a from rx)
  obtain⟨_,_,n,_,h1⟩:=(show ObjOk X.prog X.w H s.heap a (.lst xs) from I.hok a _ ea);exact zBk PySem.W.kitx_list I.kIn ⟨_,h1,rfl⟩ e (fun z=>nomatch z) h
 | @frz a ob xs ea=>
  cases (show u=Value.ref a from rx)
  obtain⟨_,_,_,n,_,h1⟩:=(show ObjOk X.prog X.w H s.heap a (.frz ob (.lst xs)) from I.hok a _ ea);exact zBk PySem.W.kitx_list I.kIn ⟨_,h1,rfl⟩ e (fun z=>nomatch z) h
 | @tup a xs ea=>
  cases (show u=Value.ref a from rx)
  obtain⟨_,_,_,p⟩:=(show ObjOk X.prog X.w H s.heap a (.tup xs) from I.hok a _ ea);obtain⟨o,h1,h2,_⟩:=p;exact zBk PySem.W.kitx_tuple I.kIn ⟨o,h1,h2⟩ e (fun z=>nomatch z) h
 | @dK a kvs ea=>
  cases (show u=Value.ref a from rx)
  obtain⟨_,_,vs,_,p⟩:=(show ObjOk X.prog X.w H s.heap a (.dK kvs) from I.hok a _ ea);obtain⟨o,es,ep,h1,h2,_⟩:=p;exact zBk PySem.W.kitx_dict I.kIn ⟨o,h1,h2.1⟩ e (fun z=>nomatch z) h
 | @dT a kvs ea=>
  cases (show u=Value.ref a from rx)
  obtain⟨_,_,xs,_,o,es,ep,h1,h2,_⟩:=(show ObjOk X.prog X.w H s.heap a (.dT kvs) from I.hok a _ ea);exact zBk PySem.W.kitx_dict I.kIn ⟨o,h1,h2.1⟩ e (fun z=>nomatch z) h
 | @ins a C dx fs ea cl ha hn htk hm=>
  cases (show u=Value.ref a from rx)
  obtain⟨mA,O,_⟩:=Pa I.hok ea;obtain⟨od,J,_⟩:=O.look;exact zBk (PySem.W.kitx_own (cl.get _) cl.hd ha hn htk hm) I.kIn J e (fun z=>nomatch z) h
end
structure Room (k:Nat) (A:Around):Prop where
 hd:A.handled=none
 dp:A.depth+3*k+5<recursionLimit
 un:A.units+16*k+200<cLine
theorem Room.mono {j k:Nat} {A:Around} (r:Room k A) (h:j<=k):Room j A:=⟨r.hd,by have:=r.dp; lia,by have:=r.un; lia⟩
theorem Room.deeper {k:Nat} {A:Around} (r:Room (k+1) A) (env:Env):Room k (A.deeper env):=
 ⟨r.hd,by have:=r.dp; show A.depth+1+3*k+5<_; lia,by have:=r.un; show A.units+3+16*k+200<_; lia⟩
theorem Yo {A:Around} {C:Addr} {us:List Value} {kw:List (Str×Value)}:(A.under (.builtin "type.__call__" ⟨.ref C::us,kw⟩)).depth=A.depth+1:=by
 first | rfl | simp [Around.under,Code.weight,Code.isCreation,Code.isGuard,Code.isCaller,Code.frames,Code.isFrame,guardIds]
theorem Xx {A:Around} {C:Addr} {us:List Value} {kw:List (Str×Value)}:(A.under (.builtin "type.__call__" ⟨.ref C::us,kw⟩)).units=A.units+1:=by
 first | rfl | simp [Around.under,Code.cUnits,Code.frames,Code.isFrame]
theorem Room.make {k:Nat} {A:Around} (r:Room (k+1) A) (C:Addr) (us:List Value) (kw:List (Str×Value)):Room k (A.under (.builtin "type.__call__" ⟨.ref C::us,kw⟩)):=
 ⟨r.hd,by have:=r.dp; rw[Yo]; lia,by have:=r.un; rw[Xx]; lia⟩
theorem Room.depth {k:Nat} {A:Around} (r:Room k A):A.depth<recursionLimit:=by have:=r.dp; lia
theorem Room.units {k:Nat} {A:Around} (r:Room k A):A.units+64<cLine:=by have:=r.un; lia
theorem Room.units0 {k:Nat} {A:Around} (r:Room k A):A.units<cLine:=by have:=r.un; lia
def Uz:TA:=fun _ H Q=>Q [] H
def Eh (ta:TE) (tr:TA):TA:=fun σ H Q=>ta σ H fun x H1=>tr σ H1 fun xs H2=>Q (x::xs) H2
section
variable {X:Cx} {e:Expr} {es:List Expr} {te:TE} {t:TA} {pos:Pos}
theorem Af:PA X [] Uz:=fun _ _ _ _ H Q I h=>Calls.spliced_nil ⟨[],H,I,.nil,h⟩
theorem Aa (ha:PE X e te) (hr:PA X es t) (hs:starEach (e::es) X.env=(false,eval e X.env)::starEach es X.env:=by rfl):PA X (e::es) (Eh te t):=by
 intro pos pins s σ H Q I h;rw[hs];show wpAny _ _ (spliced ((false,eval e X.env)::backTo pos (starEach es X.env))) _ _ s;refine Calls.spliced_cons (Cn (ha pins s σ H _ I h) fun u s1 ⟨x,H1,I1,r1,q1⟩=>?_);exact Cn (hr pos pins s1 σ H1 _ I1 q1) fun us s2 ⟨xs,H2,I2,r2,q2⟩=>⟨x::xs,H2,I2,.cons r1 r2,q2⟩
def CN (t:TA):TE:=fun σ H Q=>t σ H fun xs H1=>xs.length<=sizeLine/\∀ p,H1 p=none->Q (.ref p) (upd H1 p (.tup xs))
def CQ (t:TA):TE:=fun σ H Q=>t σ H fun xs H1=>xs.length<=sizeLine/\∀ p,H1 p=none->Q (.ref p) (upd H1 p (.lst xs))
theorem Cj {x1} (h:PA X es t):PE X (.Tuple es x1 pos) (CN t):=by
 intro pins s σ H Q I hq;refine wpAny_Tuple_spliced (Cn (h pos pins s σ H _ I hq) fun us s1 ⟨xs,H1,I1,r,z,q⟩=>⟨by rw[<- r.length]; exact z,?_⟩);have hf:H1 s1.heap.objs.size=none:=I1.hok.fresh (zAg _);refine⟨.ref s1.heap.objs.size,upd H1 s1.heap.objs.size (.tup xs),I1.laid (t':=s1.toks) (fun b u e=>zAc _ e) (zAg _) ?_,rfl,q _ hf⟩;exact⟨z,us,r,⟨_,zAv _ rfl,rfl,_,rfl⟩⟩
theorem Bq (h:PA X es t):PE X (.List es pos) (CQ t):=by
 intro pins s σ H Q I hq;refine wpAny_List_spliced (Cn (h pos pins s σ H _ I hq) fun us s1 ⟨xs,H1,I1,r,z,q⟩=>⟨by rw[<- r.length]; exact z,?_⟩);have hf:H1 s1.heap.objs.size=none:=I1.hok.fresh (zAg _);refine⟨.ref s1.heap.objs.size,upd H1 s1.heap.objs.size (.lst xs),I1.laid (t':=s1.toks) (fun b u e=>zAc _ e) (zAg _) ?_,rfl,q _ hf⟩;exact⟨z,us,0,r,zAv _ rfl⟩
end
abbrev Sp:=List V->Hp->VK->XK->Prop
abbrev L1:=List Env->Hp->Shared->XK->Value->Shared->Prop
structure Env0 (P:Program) (w:World) (K:zAb) (mg:Str->Option Value) (base:Heap) (A:Around) (outer:List Env) (s:Shared) (H:Hp):Prop where
 frames:A.frames=some outer
 mod:Mod K mg base
 bs:∀ b o,base.get? b=some o->s.heap.get? b=some o/\H b=none
 bsz:base.objs.size<=s.heap.objs.size
 funs:s.heap.FunFrames base outer
 frf:∀ b∈E4 outer,H b=none
 hok:HOk P w H s.heap
 bare:AllBare s.gens
def CE (outer:List Env) (P:Program) (w:World) (H:Hp) (s:Shared) (Q:VK) (u:Value) (s':Shared):Prop:=
 ∃ v H',s'.os=s.os/\AllBare s'.gens/\Un (E4 outer) [] H H' s.heap s'.heap/\HOk P w H' s'.heap/\RelV v u/\Q v H'
def CR (CX:L1) (outer:List Env) (P:Program) (w:World) (H:Hp) (s:Shared) (Q:VK) (E:XK) (r:Result) (s':Shared):Prop:=
 match r with
 | .ok (.ret u)=>CE outer P w H s Q u s'
 | .ok _=>False
 | .error e=>CX outer H s E e s'
structure FnOk (P:Program) (w:World) (K:zAb) (mg:Str->Option Value) (base:Heap) (CX:L1) (k:Nat) (f:Addr) (fd:zCt) (ps:List Str) (sp:Sp):Prop where
 len:∀ vs H Q E,sp vs H Q E->vs.length=ps.length
 run:∀ (A:Around) (outer:List Env) (s:Shared) (H:Hp) (args:Args) (us:List Value) (vs:List V) (Q:VK) (E:XK),Room k A->Env0 P w K mg base A outer s H->BindsTo s fd args (ps.zip us)->Vals vs us->sp vs H Q E ->
  codeAny (model P w) A (.call (.ref f) args) (CR CX outer P w H s Q E) s
theorem FnOk.mono {P:Program} {w:World} {K:zAb} {mg:Str->Option Value} {base:Heap} {CX:L1} {j k:Nat} {f:Addr} {fd:zCt} {ps:List Str} {sp:Sp} (F:FnOk P w K mg base CX j f fd ps sp) (h:j<=k) :
  FnOk P w K mg base CX k f fd ps sp:=⟨F.len,fun A outer s H args us vs Q E hr=>F.run A outer s H args us vs Q E (hr.mono h)⟩
theorem Env0.make {P:Program} {w:World} {K:zAb} {mg:Str->Option Value} {base:Heap} {A:Around} {outer:List Env} {s:Shared} {H:Hp} (e:Env0 P w K mg base A outer s H) (C:Addr) (us:List Value) (kw:List (Str×Value)) :
  Env0 P w K mg base (A.under (.builtin "type.__call__" ⟨.ref C::us,kw⟩)) outer s H:=⟨by first | exact e.frames | (simpa [Around.under,Code.envs,Code.isFrame,pushEnvs] using e.frames),e.mod,e.bs,e.bsz,e.funs,e.frf,e.hok,e.bare⟩
section
variable {X:Cx} {pins:List (Addr×Obj)} {σ:St} {H:Hp} {s s':Shared}
theorem Inv.env0 (I:Inv X pins σ H s):Env0 X.prog X.w X.K X.mg X.base X.A X.stack s H:=
 ⟨I.ok.frames,I.ok.mod,I.bs,zAE I.ok.bsz I.sz,I.stack,I.stkFree,I.hok,I.bare⟩
theorem Inv.after {Q:VK} {u:Value} (I:Inv X pins σ H s) (h:CE X.stack X.prog X.w H s Q u s'):EP X pins σ Q u s':=by
 obtain⟨v,H',os,bare,un,hok,r,q⟩:=h;obtain⟨hh,g,d,t,os'⟩:=s';obtain rfl:os'=s.os:=os;exact⟨v,H',I.call (h':=hh) (g':=g) (d':=d) (t':=t) (ch:=[]) un hok bare (fun b z=>absurd z (by simp)),r,q⟩
end
def Xi (sp:Sp) (dvs:List V) (E:XK) (t:TA):TE:=fun σ H Q=>t σ H fun vs H1=>sp (vs++dvs) H1 Q E
def BC (C:Addr) (sp:Sp) (dvs:List V) (E:XK) (t:TA):TE:=fun σ H Q=>t σ H fun vs H1=>∀ x dx,H1 x=none->H1 dx=none->dx≠x ->
 sp (.ref x::(vs++dvs)) (upd (upd H1 dx (.own x)) x (.ins C dx [])) (fun v H2=>v = .non/\Q (.ref x) H2) E
def Binds (K:zAb) (fd:zCt) (ps:List Str) (ds:List Value):Prop:=
 ∀ (s:Shared) (us:List Value),K.In s.heap->(us++ds).length=ps.length->BindsTo s fd ⟨us,[]⟩ (ps.zip (us++ds))
theorem Binds.all {K:zAb} {fd:zCt} {ps:List Str} (h:∀ us:List Value,us.length=ps.length->bindArgs fd ⟨us,[]⟩=pure (ps.zip us)):Binds K fd ps []:=fun s us _ hl=>by
 rw[zAT] at hl ⊢;exact .of_eq (h us hl)
def Pw (CX:L1) (X:Cx) (E:XK):Prop:=∀ (pins:List (Addr×Obj)) (σ:St) (H:Hp) (s:Shared) (e:Value) (s':Shared),Inv X pins σ H s->CX X.stack H s E e s'->X.xe e s'
section
variable {X:Cx} {CX:L1} {k:Nat} {f C:Addr} {fd:zCt} {ps:List Str} {sp:Sp} {dvs:List V} {ds:List Value} {E:XK} {x m:Str} {p pos apos:Pos} {e o:Expr} {es:List Expr} {ta:TE} {t:TA}
theorem Q2 {pins:List (Addr×Obj)} {σ:St} {H:Hp} {s:Shared} {Q:VK} {us:List Value} {vs:List V} (F:FnOk X.prog X.w X.K X.mg X.base CX k f fd ps sp) (hr:Room k X.A) (hb:Binds X.K fd ps ds) (hd:Vals dvs ds) (hx:Pw CX X E)
  (I:Inv X pins σ H s) (r:Vals vs us) (h:sp (vs++dvs) H Q E):wpAny (model X.prog X.w) X.A (call (.ref f) us) (EP X pins σ Q) X.xe s:=by
 have r2:Vals (vs++dvs) (us++ds):=r.append hd;have hl:(us++ds).length=ps.length:=by rw[<- r2.length]; exact F.len _ _ _ _ h
 refine wpAny_call (codeAny_mono (F.run X.A X.stack s H ⟨us,[]⟩ (us++ds) (vs++dvs) Q E hr I.env0 (hb s us I.kIn hl) r2 h) fun r s' hq=>?_);cases r with
 | error e=>exact hx pins σ H s e s' I hq
 | ok fl=>
  cases fl with
  | ret u=>exact I.after hq
  | next=>exact False.elim hq
  | brk=>exact False.elim hq
  | cont=>exact False.elim hq
theorem AH (F:FnOk X.prog X.w X.K X.mg X.base CX k f fd ps sp) (hr:Room k X.A) (hg:Gl X x) (hm:X.mg x=some (.ref f)) (hk:zAX X.K (.ref f)=true) (hb:Binds X.K fd ps ds) (hd:Vals dvs ds) (hx:Pw CX X E)
  (ha:PA X (e::es) t) (hdb:(x==("__debug__" : Str))=false:=by decide) (he:starEach (e::es) X.env=(false,eval e X.env)::starEach es X.env:=by rfl) (hpl:(backTo pos (starEach es X.env)).any (·.1)=false:=by rfl) :
  PE X (.Call (.Name x p) (e::es) [] pos) (Xi sp dvs E t):=by
 intro pins s σ H Q I h;refine wpAny_Call_Name_kw (Ox I hg hm ?_ hdb);refine PySem.W.callWith_K (h₀ := X.base) I.ok.mod.kin hk (Cn (ha pos pins s σ H _ I h) fun us s1 ⟨vs,H1,I1,r,q⟩=>⟨I1.kIn,?_⟩) he hpl;exact Q2 F hr hb hd hx I1 r q
structure Mk (K:zAb) (C f:Addr):Prop where
 makes:zCc K C=true
 init:zAh K (.ref C) "__init__" = some (some (.ref f))
 fn:zCf K (.ref f)=true
 kp:zAX K (.ref C)=true
theorem U1 {pins:List (Addr×Obj)} {σ:St} {H:Hp} {s:Shared} {Q:VK} {us:List Value} {vs:List V} (M:Mk X.K C f) (F:FnOk X.prog X.w X.K X.mg X.base CX k f fd ps sp) (hr:Room (k+1) X.A) (hb:Binds X.K fd ps ds) (hd:Vals dvs ds)
  (hx:Pw CX X E) (I:Inv X pins σ H s) (r:Vals vs us)
  (h:∀ x dx,H x=none->H dx=none->dx≠x->sp (.ref x::(vs++dvs)) (upd (upd H dx (.own x)) x (.ins C dx [])) (fun v H2=>v = .non/\Q (.ref x) H2) E) :
  wpAny (model X.prog X.w) X.A (call (.ref C) us) (EP X pins σ Q) X.xe s:=by
 have hq:=h (s.heap.objs.size+1) s.heap.objs.size (I.hok.fresh (zBn _)) (I.hok.fresh (zAg _)) (zAs (zBy _));have I2:=Inv.made (C:=C) I;have r2:Vals (V.ref (s.heap.objs.size+1)::(vs++dvs)) (Value.ref (s.heap.objs.size+1)::(us++ds)):=.cons rfl (r.append hd);have hl:(Value.ref (s.heap.objs.size+1)::us++ds).length=ps.length:=by
  have e:=r2.length;rw[F.len _ _ _ _ hq] at e;exact e.symm
 refine wpAny_call (U8 (f:=f) I.kIn M.makes M.init (beq_iff_eq.mp M.fn) (codeAny_mono (F.run _ X.stack _ _ ⟨Value.ref (s.heap.objs.size+1)::us,[]⟩ (Value.ref (s.heap.objs.size+1)::(us++ds)) _ _ E (hr.make C us [])
  (I2.env0.make C us []) (hb _ (Value.ref (s.heap.objs.size+1)::us) I2.kIn hl) r2 hq) fun r s' hq'=>?_))
 cases r with
 | error e=>exact hx pins σ _ _ e s' I2 hq'
 | ok fl=>
  cases fl with
  | ret u=>
   obtain⟨v,H',I3,rv,ev,q3⟩:=I2.after hq';subst ev;exact⟨rv,⟨V.ref (s.heap.objs.size+1),H',I3,rfl,q3⟩⟩
  | next=>exact False.elim hq'
  | brk=>exact False.elim hq'
  | cont=>exact False.elim hq'
theorem X3 (M:Mk X.K C f) (F:FnOk X.prog X.w X.K X.mg X.base CX k f fd ps sp) (hr:Room (k+1) X.A) (hg:Gl X x) (hm:X.mg x=some (.ref C)) (hb:Binds X.K fd ps ds) (hd:Vals dvs ds) (hx:Pw CX X E)
  (ha:PA X (e::es) t) (hdb:(x==("__debug__" : Str))=false:=by decide) (he:starEach (e::es) X.env=(false,eval e X.env)::starEach es X.env:=by rfl) (hpl:(backTo pos (starEach es X.env)).any (·.1)=false:=by rfl) :
  PE X (.Call (.Name x p) (e::es) [] pos) (BC C sp dvs E t):=by
 intro pins s σ H Q I h;refine wpAny_Call_Name_kw (Ox I hg hm ?_ hdb);refine PySem.W.callWith_K (h₀ := X.base) I.ok.mod.kin M.kp (Cn (ha pos pins s σ H _ I h) fun us s1 ⟨vs,H1,I1,r,q⟩=>⟨I1.kIn,?_⟩) he hpl;exact U1 M F hr hb hd hx I1 r q
end
section
variable {X:Cx} {CX:L1} {k:Nat} {f C:Addr} {fd:zCt} {ps ks:List Str} {sp:Sp} {E:XK} {x m:Str} {p pos apos kpos:Pos} {e o:Expr} {es:List Expr} {kws:List Keyword} {te ta:TE} {t tk:TA} {nm:Option Str}
variable {g:List Value->List Value->List Value} {gV:List V->List V->List V}
end
structure Bb (N P:List Str) (sc:Scope):Prop where
 kind:sc.kind = .function
 co:sc.isCoroutine=false
 gen:sc.isGenerator=false
 nd:N.Nodup
 pre:N.take P.length=P
 par:∀ x∈P,sc.names.lookup x=some .local\/sc.names.lookup x=some .cell
 nofree:∀ y∈sc.names,y.2 ≠ .free
theorem Td {kindOf:Str->Option NameKind} {x:Str}:∀ {binds:List (Str×Value)} {m:Str->Option Value},(∀ v,(x,v)∉binds)->bindL kindOf binds m x=m x
 | [],_,_=>rfl
 | (n,v)::r,m,h=>by
  unfold bindL;rw[Td fun w hw=>h w (zAm _ hw)]
  split
  ·have:x≠n:=by rintro rfl; exact h v zAo
   simp [this]
  ·rfl
theorem Sx {kindOf:Str->Option NameKind} {x:Str}:∀ {binds:List (Str×Value)} {m:Str->Option Value},(∀ v,(x,v)∉binds)->bindC kindOf binds m x=m x
 | [],_,_=>rfl
 | (n,v)::r,m,h=>by
  unfold bindC;rw[Sx fun w hw=>h w (zAm _ hw)]
  split
  ·rfl
  ·have:x≠n:=by rintro rfl; exact h v zAo
   simp [this]
theorem Tc {kindOf:Str->Option NameKind} {x:Str} {v:Value}:∀ {P:List Str} {vs:List Value} {i:Nat} {m:Str->Option Value},P.Nodup->P[i]?=some x->vs[i]?=some v->kindOf x=some .local ->
  bindL kindOf (P.zip vs) m x=some v
 | [],_,_,_,_,h,_,_=>by simp at h
 | _::_,[],_,_,_,_,h,_=>by simp at h
 | p::P,w::vs,0,m,nd,h1,h2,hk=>by
  simp at h1 h2; subst h1; subst h2;show bindL kindOf ((p,w)::P.zip vs) m p=_;unfold bindL;rw[Td fun v hv=>(zBp.mp nd).1 (List.of_mem_zip hv).1,if_pos hk];simp
 | p::P,w::vs,i+1,m,nd,h1,h2,hk=>by
  show bindL kindOf ((p,w)::P.zip vs) m x=_;unfold bindL;exact Tc (i:=i) (zBp.mp nd).2 (by simpa using h1) (by simpa using h2) hk
theorem Sh {kindOf:Str->Option NameKind} {x:Str} {v:Value}:∀ {P:List Str} {vs:List Value} {i:Nat} {m:Str->Option Value},P.Nodup->P[i]?=some x->vs[i]?=some v->kindOf x≠some .local ->
  bindC kindOf (P.zip vs) m x=some v
 | [],_,_,_,_,h,_,_=>by simp at h
 | _::_,[],_,_,_,_,h,_=>by simp at h
 | p::P,w::vs,0,m,nd,h1,h2,hk=>by
  simp at h1 h2; subst h1; subst h2;show bindC kindOf ((p,w)::P.zip vs) m p=_;unfold bindC;rw[Sx fun v hv=>(zBp.mp nd).1 (List.of_mem_zip hv).1,if_neg hk];simp
 | p::P,w::vs,i+1,m,nd,h1,h2,hk=>by
  show bindC kindOf ((p,w)::P.zip vs) m x=_;unfold bindC;exact Sh (i:=i) (zBp.mp nd).2 (by simpa using h1) (by simpa using h2) hk
def Lh (N:List Str) (vs:List V):St:=vs.map some++zAD (N.length-vs.length) none
def Xn (CX:L1) (P:Program) (w:World) (K:zAb) (mg:Str->Option Value) (base:Heap) (N:List Str) (qual:Str) (scope:Scope) (f:Addr) (cd:Value) (A:Around) (outer:List Env) (s:Shared) (H:Hp) (E:XK):Cx where
 prog:=P
 w:=w
 K:=K
 mg:=mg
 base:=base
 A:=A.deeper (envOfC qual scope s.heap.objs.size f cd)
 N:=N
 s₀ := s
 H₀ := H
 env:=envOfC qual scope s.heap.objs.size f cd
 outer:=outer
 stack:=envOfC qual scope s.heap.objs.size f cd::outer
 ex:=[]
 calm:=true
 fn:=fun _=>true
 pn:=[]
 xe:=fun e s'=>wpAny (model P w) (A.deeper (envOfC qual scope s.heap.objs.size f cd)) (leaving (envOfC qual scope s.heap.objs.size f cd) e) (fun _ s''=>CX outer H s E e s'') (fun e' s''=>CX outer H s E e' s'') s'
theorem Vv {sc:Scope} {n:Nat} {x:Str} (h:sc.names.lookup x=some .cell):∃ c,(cellsFrom n sc.names []).lookup x=some c:=by
 have q:=PySem.W.cellsFrom_some sc.names n [] (.inl h);exact Option.isSome_iff_exists.mp q
theorem D9 {CX:L1} {P:Program} {w:World} {K:zAb} {mg:Str->Option Value} {base:Heap} {N ps:List Str} {qual:Str} {scope:Scope} {f:Addr} {cd:Value} {A:Around} {outer:List Env} {s s1:Shared} {H:Hp} {E:XK} {us:List Value} {vs:List V}
  (S:Bb N ps scope) (hd:A.handled=none) (e0:Env0 P w K mg base A outer s H) (hl:vs.length=ps.length) (r:Vals vs us)
  (x:InCallC s s.heap.objs.size (bindL (envOfC qual scope s.heap.objs.size f cd).kindOf (ps.zip us) fun _=>none) (cellsFrom (s.heap.objs.size+1) scope.names []) (bindC (envOfC qual scope s.heap.objs.size f cd).kindOf (ps.zip us) fun _=>none) s1) :
  Inv (Xn CX P w K mg base N qual scope f cd A outer s H E) [] (Lh N vs) H s1:=by
 have hpl:ps.length<=N.length:=by have:=congrArg List.length S.pre; rw[zAB] at this; lia
 obtain⟨h1,tk,rfl,hk⟩:=x.done;have noA:∀ b:Addr,b∉(Xn CX P w K mg base N qual scope f cd A outer s H E).ex:=fun b z=>absurd (show b∈([]:List Addr) from z) (by simp);refine⟨⟨e0.mod,S.kind,rfl,rfl,zAg _,fun y z c h1 h2=>?_,fun y hy=>?_,fun y c _ h=>?_,fun _=>hd,Around.frames_deeper e0.frames,.inr ⟨rfl,rfl⟩,fun b z=>absurd z (noA b),e0.bs,e0.bsz,fun b _ _=>noA b,fun b z=>absurd z (noA b),e0.funs,e0.frf⟩,
  rfl,e0.bare,Un.kept hk,⟨_,x.toInCall.ns,fun i y v h1 h2 h3=>?_⟩,fun y c h=>⟨_,x.cell y c h⟩,e0.hok.fresh (zAg _),fun y c h=>?_,fun p hp=>absurd (show p∈([]:List (Addr×Obj)) from hp) (by simp),e0.hok.kept hk,?_⟩
 ·exact name_of_addr x.apart (PySem.mem_of_lookup h1) (PySem.mem_of_lookup h2)
 ·have hy:scope.names.lookup y=some .cell\/scope.names.lookup y=some .free:=hy
  rcases hy with hy | hy
  ·exact Vv hy
  ·exact absurd rfl (S.nofree _ (PySem.mem_of_lookup hy))
 ·exact zBD (x.above y c (PySem.mem_of_lookup h))
 ·have hi:i<vs.length:=by
   unfold Lh at h2;by_cases hi:i<vs.length
   ·exact hi
   ·rw[zAQ (by simpa using hi)] at h2
    rw[List.getElem?_replicate] at h2
    split at h2 <;> cases h2
  have ha:vs[i]?=some v:=by
   unfold Lh at h2;rw[zBa (by simpa using hi),zAl] at h2;cases e:vs[i]? with
   | none=>rw[e] at h2; cases h2
   | some a=>rw[e] at h2; cases h2; rfl
  obtain⟨u,hu,rv⟩:=r.get ha;have hp:ps[i]?=some y:=by
   rw[<- S.pre,List.getElem?_take_of_lt (by lia)]; exact h1
  have ndP:ps.Nodup:=by rw[<- S.pre]; exact S.nd.sublist (List.take_sublist _ _)
  refine⟨u,rv,?_⟩;rcases S.par y (zAu hp) with k | k
  ·exact .inl ⟨k,Tc ndP hp hu k⟩
  ·obtain⟨c,e⟩:=Vv (n:=s.heap.objs.size+1) k
   refine .inr ⟨.inl k,c,e,?_⟩;have q:=x.cell y c e;rw[Sh ndP hp hu (by show scope.names.lookup y≠_; rw[k]; decide)] at q;exact q
 ·exact e0.hok.fresh (zBD (x.above y c (PySem.mem_of_lookup h)))
 ·unfold Lh
  show _=N.length;rw[zAe,zAa,zAS]
  lia
theorem BA {CX:L1} {P:Program} {w:World} {K:zAb} {mg:Str->Option Value} {base:Heap} {k:Nat} {f:Addr} {name qual:Str} {params:Arguments} {body:List Stmt} {scope:Scope} {dV kV doc pm cdv ct oc:Value} {an od:Option Addr}
  {osl:Array (Option Value)} {N ps:List Str} {sp:Sp} (lk:K.lookup f=some ⟨oc,od,.func (zAV name qual params body scope dV kV doc pm an cdv ct),osl⟩) (hcd:zBu K cdv qual=true) (S:Bb N ps scope)
  (len:∀ vs H Q E,sp vs H Q E->vs.length=ps.length)
  (hbody:∀ (A:Around) (outer:List Env) (s:Shared) (H:Hp) (vs:List V) (Q:VK) (E:XK),Room k (A.deeper (envOfC qual scope s.heap.objs.size f cdv))->sp vs H Q E ->
   ∃ t,PSs (Xn CX P w K mg base N qual scope f cdv A outer s H E) body t/\t { nx:=fun _ H'=>Q .non H',rt:=Q } (Lh N vs) H) :
  FnOk P w K mg base CX (k+1) f (zAV name qual params body scope dV kV doc pm an cdv ct) ps sp:=by
 refine⟨len,fun A outer s H args us vs Q E hr e0 hb r hsp=>?_⟩;have hl:=len _ _ _ _ hsp;have KX:K.In s.heap:=e0.mod.kin.keeps fun b o e=>(e0.bs b o e).1;have lim:s.heap.NoLimit:=e0.mod.nolimit.keeps fun b o e=>(e0.bs b o e).1;have hkind:∀ y∈ps.zip us,scope.names.lookup y.1=some .local\/(scope.names.lookup y.1=some .cell/\((cellsFrom (s.heap.objs.size+1) scope.names []).lookup y.1).isSome=true):=fun ⟨n,v⟩ hy=>by
  rcases S.par n (List.of_mem_zip hy).1 with q | q
  ·exact .inl q
  ·exact .inr ⟨q,PySem.W.cellsFrom_some _ _ _ (.inl q)⟩
 refine codeAny_call_function hr.depth (KX _ _ lk) rfl S.co S.gen rfl (PySem.W.codeRec_of KX hcd) (hb _ _ _ _ ?_);refine wpAny_newFunctionEnv_cells S.kind hkind fun env he s1 x=>?_;subst he;refine⟨lim.keeps x.toInCall.keep,codeAny_func ?_⟩;obtain⟨t,ht,hq⟩:=hbody A outer s H vs Q E (hr.deeper _) hsp;have I:Inv (Xn CX P w K mg base N qual scope f cdv A outer s H E) [] (Lh N vs) H s1:=D9 S hr.hd e0 hl r x;refine wpAny_mono (ht [] s1 (Lh N vs) H _ I hq) (fun fl s' hs=>?_) fun e s' hs=>hs;have fin:∀ {σ':St} {H':Hp} {v:V} {u:Value},Inv (Xn CX P w K mg base N qual scope f cdv A outer s H E) [] σ' H' s'->RelV v u->Q v H'->CE outer P w H s Q u s':=
  fun {σ' H' v u} J rv q=>⟨v,H',J.os,J.bare,J.base,J.hok,rv,q⟩
 cases fl with
 | ret u=>
  obtain⟨v,σ',H',J,rv,q⟩:=hs;exact fin J rv q
 | next=>
  obtain⟨σ',H',J,q⟩:=hs;exact fin (v:=V.non) (u:=Value.none) J rfl q
 | brk=>
  obtain⟨_,_,_,q⟩:=hs;exact False.elim q
 | cont=>
  obtain⟨_,_,_,q⟩:=hs;exact False.elim q
section
variable {X:Cx} {x:Str} {p pos:Pos} {e:Expr} {es:List Expr} {t:TA} {id T:String} {r:List V->Hp->VK->Prop}
def HW (r:List V->Hp->VK->Prop) (t:TA):TE:=fun σ H Q=>t σ H fun vs H1=>r vs H1 Q
theorem Bg (hc:Kb X (.builtin id) r) (hg:Gl X x) (hm:X.mg x=none) (hv:zCs x=some (.builtin id)) (ha:PA X (e::es) t) (hn:x ≠ "__name__" := by decide) (hdb:(x==("__debug__" : Str))=false:=by decide)
  (he:starEach (e::es) X.env=(false,eval e X.env)::starEach es X.env:=by rfl) (hpl:(backTo pos (starEach es X.env)).any (·.1)=false:=by rfl):PE X (.Call (.Name x p) (e::es) [] pos) (HW r t):=by
 intro pins s σ H Q I h;refine wpAny_Call_Name_kw (Dy I hg hm hv ?_ hn hdb);exact PyProof.Rows.callWith_builtin1 (Cn (ha pos pins s σ H _ I h) fun us s1 ⟨vs,H1,I1,r1,q1⟩=>hc pins s1 σ H1 vs us Q I1 r1 q1) he hpl
theorem Ds (hc:Kb X (.type T) r) (hg:Gl X x) (hm:X.mg x=none) (hv:zCs x=some (.type T)) (ha:PA X (e::es) t) (hn:x ≠ "__name__" := by decide) (hdb:(x==("__debug__" : Str))=false:=by decide)
  (he:starEach (e::es) X.env=(false,eval e X.env)::starEach es X.env:=by rfl) (hpl:(backTo pos (starEach es X.env)).any (·.1)=false:=by rfl):PE X (.Call (.Name x p) (e::es) [] pos) (HW r t):=by
 intro pins s σ H Q I h;refine wpAny_Call_Name_kw (Dy I hg hm hv ?_ hn hdb);exact PyProof.Rows.callWith_type1 (Cn (ha pos pins s σ H _ I h) fun us s1 ⟨vs,H1,I1,r1,q1⟩=>hc pins s1 σ H1 vs us Q I1 r1 q1) he hpl
end
end L2
namespace HT
open PySem PyProof.Rows
section
open PySem.SeqAt
open PySem.AutoSeq1 (wpAny_loadPart')
open PySem.MeetsSeq PySem.MeetsSeq2 PySem.MeetsSeq3
end
section
variable {prog:Program} {w:World} {A:Around} {E:Value->Shared->Prop} {s:Shared}
def sIx (n d:Nat):Option Int->Nat
 | none=>d
 | some v=>if v<0 then (v+(n:Int)).toNat else min v.toNat n
theorem sIx_none (n d:Nat):sIx n d none=d:=rfl
theorem sIx_nat (n d k:Nat):sIx n d (some (k:Int))=min k n:=by
 show (if (k:Int)<0 then ((k:Int)+(n:Int)).toNat else min (k:Int).toNat n)=min k n;rw[if_neg (by lia),Int.toNat_natCast]
theorem DX (n d:Nat) (hd:d<=n) (o:Option Int):sIx n d o<=n:=by
 cases o with
 | none=>exact hd
 | some v=>
  show (if v<0 then (v+(n:Int)).toNat else min v.toNat n)<=n;by_cases hv:v<0
  ·rw[if_pos hv]; lia
  ·rw[if_neg hv]; exact Nat.min_le_right _ _
theorem Zw (v:Int) (n d:Nat):(if v<0 then max (v+(n:Int)) 0 else min v (n:Int))=((sIx n d (some v):Nat):Int):=by
 show (if v<0 then max (v+(n:Int)) 0 else min v (n:Int))=(((if v<0 then (v+(n:Int)).toNat else min v.toNat n):Nat):Int);by_cases hv:v<0
 ·simp only [if_pos hv]; lia
 ·simp only [if_neg hv]; lia
theorem Yy (lo hi:Option Int) (n:Nat):Builtin.Slice.sliceAdjust lo hi 1 (n:Int)=(((sIx n 0 lo:Nat):Int),((sIx n n hi:Nat):Int)):=by
 have h1:¬ ((1:Int)<0):=by lia
 unfold Builtin.Slice.sliceAdjust;simp only [h1,if_false];refine Prod.ext ?_ ?_
 ·cases lo with
  | none=>rfl
  | some v=>exact Zw v n 0
 ·cases hi with
  | none=>rfl
  | some v=>exact Zw v n n
theorem Ye (i j:Nat):Builtin.Slice.slicePlaces (i:Int) (j:Int) 1=j-i:=by
 unfold Builtin.Slice.slicePlaces;have h1:(1:Int)>0:=by lia
 simp only [h1,if_true,Int.ediv_one]
 split <;> lia
theorem Pu {v:Value} {o:Option Int} {Q:Option Int->Shared->Prop} (p:IsPart v o) (h:Q o s):wpAny (model prog w) A (Builtin.Slice.slicePartIndex v) Q E s:=by
 cases p with
 | none=>exact slicePart_none h
 | int i t=>exact slicePart_int h
theorem Mf {sl:Addr} {vl vu:Value} {lo hi:Option Int} {n:Nat} {Q:Int×Int×Nat->Shared->Prop} (hs:s.heap.IsSliceOf sl vl vu .none) (pl:IsPart vl lo) (pu:IsPart vu hi)
  (h:Q (((sIx n 0 lo:Nat):Int),1,sIx n n hi-sIx n 0 lo) s):wpAny (model prog w) A (Builtin.Slice.sliceApplied (.ref sl) (pure (n:Int))) Q E s:=by
 obtain⟨os,hos,hcs,hds⟩:=id hs;unfold Builtin.Slice.sliceApplied Builtin.Slice.sliceFields;refine zCp (zCp (wpAny_field hos hds (x:=vl) rfl (zCp (wpAny_field hos hds (x:=vu) rfl (zCp (wpAny_field hos hds (x:=.none) rfl (zCq ?_)))))));refine zCp (slicePart_none ?_);show wpAny _ _ (if ((1:Int)==0)=true then _ else _) _ _ s;rw[if_neg (by decide)];refine zCp (Pu pl (zCp (Pu pu (zCp (zCq ?_)))));show wpAny _ _ (match Builtin.Slice.sliceAdjust lo hi 1 (n:Int) with | (lo,hi)=>pure (lo,(1:Int),Builtin.Slice.slicePlaces lo hi 1)) _ _ s;rw[Yy lo hi n];show wpAny _ _ (pure (((sIx n 0 lo:Nat):Int),(1:Int),Builtin.Slice.slicePlaces ((sIx n 0 lo:Nat):Int) ((sIx n n hi:Nat):Int) 1)) _ _ s;rw[Ye];exact zCq h
theorem O3 (xs:Array Value) (i k:Nat):((zAM k).filterMap fun (m:Nat)=>xs[((i:Int)+(m:Int)*1).toNat]?).toArray=((xs.toList.drop i).take k).toArray:=by
 have e:(fun (m:Nat)=>xs[((i:Int)+(m:Int)*1).toNat]?)=fun m=>xs[i+m]?:=by
  funext m
  have:((i:Int)+(m:Int)*1).toNat=i+m:=by lia
  rw[this]
 rw[e];have:=pick_run xs i k;rw[List.filterMap_map] at this;have e2:((fun x=>xs[x]?) ∘ fun x=>i+x)=fun m=>xs[i+m]?:=rfl;rw[e2] at this;rw[this]
theorem getItem_tuple_cut {t sl:Addr} {items:Array Value} {vl vu:Value} {lo hi:Option Int} {Q:Value->Shared->Prop} (ht:IsTup s.heap t items) (hs:s.heap.IsSliceOf sl vl vu .none) (pl:IsPart vl lo) (pu:IsPart vu hi)
  (hw:¬ (sIx items.size 0 lo=0/\sIx items.size items.size hi=items.size))
  (h:Q (.ref s.heap.objs.size) { s with heap:=s.heap.push { cls:=.type "tuple",data:=.seq ((items.toList.drop (sIx items.size 0 lo)).take (sIx items.size items.size hi-sIx items.size 0 lo)).toArray } })
  (hsz:items.size<=sizeLine):wpAny (model prog w) A (getItem (.ref t) (.ref sl)) Q E s:=by
 have htake:sizeOk (.seq ((items.toList.drop (sIx items.size 0 lo)).take (sIx items.size items.size hi-sIx items.size 0 lo)).toArray):=by
  show ((items.toList.drop (sIx items.size 0 lo)).take (sIx items.size items.size hi-sIx items.size 0 lo)).toArray.size<=sizeLine;rw[zAd,zAB,zCm,zAx]
  lia
 have hj:sIx items.size items.size hi<=items.size:=DX _ _ (zAg _) hi;obtain⟨os,hos,hcs,hds⟩:=id hs;have hTs:s.TypeIs (.ref sl) "slice" := ⟨os,hos,hcs⟩;unfold getItem
 try with_reducible refine wpAny_holding ?_
 first | refine zCp (zCq ?_) | skip
 refine zCp (wpAny_sequenceKey ht.typeIs (by decide) ?_);refine zCp (wpAny_callSpecial?_slot (name:=Str.ofString "__getitem__") ht.typeIs PyProof.Rows.slot_tuple_getitem
  (wpAny_call_entry PyProof.Rows.slot_tuple_getitem ht.typeIs entry_tuple_getitem ?_ (args_tuple_getitem _ _)))
 show wpAny _ _ (Builtin.Tuple.tupleItemsOf (.ref t) >>= _) _ _ s;refine zCp (tupleItemsOf_ ht ?_);refine zCp (wpAny_typeOf hTs ?_);rw[if_pos (by decide)];refine zCp (Mf hs pl pu ?_);have hno:¬ ((((sIx items.size 0 lo:Nat):Int)==0&&(1:Int)==1&&(sIx items.size items.size hi-sIx items.size 0 lo)==items.size)=true):=by
  intro q;rw[zBe,zBe] at q;have q1:((sIx items.size 0 lo:Nat):Int)=0:=eq_of_beq q.1.1;have q2:sIx items.size items.size hi-sIx items.size 0 lo=items.size:=eq_of_beq q.2;exact hw ⟨by lia,by lia⟩
 show wpAny _ _ (if (((sIx items.size 0 lo:Nat):Int)==0&&(1:Int)==1&&(sIx items.size items.size hi-sIx items.size 0 lo)==items.size)=true then _ else _) _ _ s;rw[if_neg hno,O3]
 first
  | exact zCp (m:=Builtin.Tuple.tupleExact _) (wpAny_newObj_type (zCq ⟨_,rfl,zCq h⟩) htake)
  | exact zCp (m:=Builtin.Tuple.tupleExact _) (wpAny_newObj_type (zCp (zCq (zCq ⟨_,rfl,zCq h⟩))) htake)
  | exact zCp (zCp (m:=Builtin.Tuple.tupleExact _) (wpAny_newObj_type (zCq (zCq ⟨_,rfl,zCq h⟩)) htake))
  | exact zCp (zCp (m:=Builtin.Tuple.tupleExact _) (wpAny_newObj_type (zCq ⟨_,rfl,zCq h⟩) htake))
end
end HT
namespace L2
open PySem PySem.Spec PyProof.Rows
abbrev TO:=St->Hp->(Option Int->Hp->Prop)->Prop
def PO (X:Cx) (e:Option Expr) (t:TO):Prop:=
 ∀ (pins:List (Addr×Obj)) (s:Shared) (σ:St) (H:Hp) (Q:Option Int->Hp->Prop),Inv X pins σ H s->t σ H Q ->
  wpAny (model X.prog X.w) X.A (evalPart e X.env) (fun u s'=>∃ o H',Inv X pins σ H' s'/\IsPart u o/\Q o H') X.xe s
def X9:TO:=fun _ H Q=>Q none H
def FP (t:TE):TO:=fun σ H Q=>t σ H fun x H1=>∃ i,x = .int i/\Q (some i) H1
theorem Xu {ns:List Int}:∀ {us:List Value},Vals (ns.map V.int) us->IntsAre us ns:=by
 induction ns with
 | nil=>intro us r; rw[zBr] at r; cases r; exact .nil
 | cons n ns ih=>
  intro us r;rw[zAw] at r;cases r with
  | cons r1 r2=>
   obtain⟨t,e⟩:=r1;subst e;exact .cons n t (ih r2)
section
variable {X:Cx} {e:Expr} {te:TE} {lo hi:Option Expr} {tl th:TO} {pos p2:Pos}
theorem Lz:PO X none X9:=by
 intro pins s σ H Q I h;rw[evalPart_none];exact zCq ⟨none,H,I,.none,h⟩
theorem Hv (h:PE X e te):PO X (some e) (FP te):=by
 intro pins s σ H Q I hw;rw[evalPart_some];refine Cn (h pins s σ H _ I hw) fun u s1 ⟨x,H1,I1,r1,q1⟩=>?_;obtain⟨i,rfl,q⟩:=q1;obtain⟨t,rfl⟩:=r1;exact⟨some i,H1,I1,.int i t,q⟩
def GB (X:Cx) (r:V->Option Int->Option Int->Hp->VK->Prop):Prop:=
 ∀ (pins:List (Addr×Obj)) (s:Shared) (σ:St) (H:Hp) (x:V) (v vl vu:Value) (lo hi:Option Int) (sl:Addr) (Q:VK),Inv X pins σ H s->RelV x v->s.heap.IsSliceOf sl vl vu .none->IsPart vl lo->IsPart vu hi->r x lo hi H Q ->
  ∃ T id,typeLookup (.type T) "__getitem__" = pure (some (.builtin id))/\s.TypeIs v T/\wpAny (model X.prog X.w) X.A (getItem v (.ref sl)) (EP X pins σ Q) X.xe s
def IG (r:V->Option Int->Option Int->Hp->VK->Prop) (te:TE) (tl th:TO):TE:=fun σ H Q=>te σ H fun x H1=>tl σ H1 fun l H2=>th σ H2 fun u H3=>r x l u H3 Q
theorem Hf {r:V->Option Int->Option Int->Hp->VK->Prop} (hr:GB X r) (he:PE X e te) (hl:PO X lo tl) (hu:PO X hi th):PE X (.Subscript e (.Slice lo hi none p2) pos) (IG r te tl th):=by
 intro pins s σ H Q I h;refine Subscript_ (Cn (he pins s σ H _ I h) fun v s1 ⟨x,H1,I1,r1,q1⟩=>?_);refine wpAny_Slice (Cn (hl pins s1 σ H1 _ I1 q1) fun vl s2 ⟨l,H2,I2,pl,q2⟩=>Cn (hu pins s2 σ H2 _ I2 q2) fun vu s3 ⟨u,H3,I3,pu,q3⟩=>?_);rw[evalPart_none];refine zCq ?_;have I4:Inv X pins σ H3 { s3 with heap:=s3.heap.push { cls:=.type "slice",data:=.fields #[vl,vu,.none] } }:=I3.kept (t':=s3.toks) fun b ob q=>zAc _ q;obtain⟨T,id,hT,ht,hg⟩:=hr pins { s3 with heap:=s3.heap.push { cls:=.type "slice",data:=.fields #[vl,vu,.none] } } σ H3 x v vl vu l u s3.heap.objs.size Q I4 r1 (Heap.IsSliceOf.new ..) pl pu q3;show wpAny (model X.prog X.w) X.A (subscriptTail e (.Slice lo hi none p2) v (.ref s3.heap.objs.size)) (EP X pins σ Q) X.xe { s3 with heap:=s3.heap.push { cls:=.type "slice",data:=.fields #[vl,vu,.none] } };exact tail_any (ops:=[.ref s3.heap.objs.size,v]) ht hT hg (by with_unfolding_all rfl)
def Hd (xs:List V) (lo hi:Option Int):List V:=(xs.drop (HT.sIx xs.length 0 lo)).take (HT.sIx xs.length xs.length hi-HT.sIx xs.length 0 lo)
theorem Nr (xs:List V) (lo hi:Option Int):(Hd xs lo hi).length<=xs.length:=by
 unfold Hd;rw[zAB,zCm]
 lia
def EO (K:zAb):V->Option Int->Option Int->Hp->VK->Prop:=fun x lo hi H Q=>∃ a xs,x = .ref a/\SqT K H a xs /\
 ¬ (HT.sIx xs.length 0 lo=0/\HT.sIx xs.length xs.length hi=xs.length)/\∀ p,H p=none->Q (.ref p) (upd H p (.tup (Hd xs lo hi)))
theorem M9:GB X (EO X.K):=by
 intro pins s σ H x v vl vu lo hi sl Q I rx hs pl pu h;obtain⟨a,xs,rfl,hx,hw,q⟩:=h;cases rx;obtain⟨its,r,ht,hz⟩:=I.tuple hx;have hlen:its.toArray.size=xs.length:=by rw[zAd]; exact r.length.symm
 refine⟨"tuple",_,PyProof.Rows.slot_tuple_getitem.lookup,ht.typeIs,?_⟩;refine HT.getItem_tuple_cut ht hs pl pu (by rw[hlen]; exact hw) ?_ (by rw[hlen]; exact hz);rw[hlen];refine⟨.ref s.heap.objs.size,_,I.laid (t':=s.toks) (o:=.tup (Hd xs lo hi)) (fun b ob q=>zAc _ q) (zAg _) ?_,rfl,q _ (I.hok.fresh (zAg _))⟩;exact⟨zAE (Nr xs lo hi) hz,_,(r.drop (HT.sIx xs.length 0 lo)).take (HT.sIx xs.length xs.length hi-HT.sIx xs.length 0 lo),IsTup.new _ _⟩
end
def CZ (n:Nat) (i:Int):Option Nat:=if 0<=i then (if i<n then some i.toNat else none) else if -(n:Int)<=i then some (i+n).toNat else none
def Nt {α:Type} (xs:List α) (i:Int):Option α:=(CZ xs.length i).bind fun j=>xs[j]?
theorem C8 {n:Nat} {i:Int} {j:Nat} (h:CZ n i=some j):seqIndex? i n=some j/\j<n/\-(n:Int)<=i/\i<n:=by
 unfold CZ at h;by_cases h0:0<=i
 ·rw[if_pos h0] at h
  by_cases h1:i<n
  ·rw[if_pos h1] at h
   have e:i.toNat=j:=Option.some.inj h;exact⟨by rw[seqIndex_of h0 h1,e],by lia,by lia,h1⟩
  ·rw[if_neg h1] at h; cases h
 ·rw[if_neg h0] at h
  by_cases h1 : -(n:Int)<=i
  ·rw[if_pos h1] at h
   have e:(i+n).toNat=j:=Option.some.inj h;exact⟨by rw[seqIndex_neg (by lia) h1,e],by lia,h1,by lia⟩
  ·rw[if_neg h1] at h; cases h
theorem Tn {α:Type} {xs:List α} {i:Int} {v:α} (h:Nt xs i=some v):∃ j,seqIndex? i xs.length=some j/\xs[j]?=some v/\j<xs.length/\-(xs.length:Int)<=i/\i<xs.length:=by
 unfold Nt at h;cases e:CZ xs.length i with
 | none=>rw[e] at h; cases h
 | some j=>
  rw[e] at h;obtain⟨h1,h2,h3,h4⟩:=C8 e;exact⟨j,h1,h,h2,h3,h4⟩
theorem Fq {α:Type} {xs:List α} {j:Nat} {v:α} (h:xs[j]?=some v):Nt xs (j:Int)=some v:=by
 have hj:j<xs.length:=(zAp.mp h).1;have e:CZ xs.length (j:Int)=some j:=by
  unfold CZ;rw[if_pos (by lia),if_pos (by lia)]; simp
 unfold Nt; rw[e]; exact h
def AL (b:Expr):Prop:=∀ o i,subscripted b false o i=operate [o,i] (getItem o i)
def EK (X:Cx) (r:R2):Prop:=
 ∀ (value slice:Expr) (pins:List (Addr×Obj)) (s:Shared) (σ:St) (H:Hp) (x y:V) (v u:Value) (Q:VK),Inv X pins σ H s->RelV x v->RelV y u->r x y H Q ->
  subscripted slice false v u=operate [v,u] (getItem v u)->wpAny (model X.prog X.w) X.A (subscriptTail value slice v u) (EP X pins σ Q) X.xe s
def HQ (X:Cx) (id:String) (r:V->List V->Hp->VK->Prop):Prop:=
 ∀ (pins:List (Addr×Obj)) (s:Shared) (σ:St) (H:Hp) (x:V) (xs:List V) (v:Value) (us:List Value) (Q:VK),Inv X pins σ H s->RelV x v->Vals xs us->r x xs H Q ->
  wpAny (model X.prog X.w) X.A (call (.builtin id) (v::us)) (EP X pins σ Q) X.xe s
section
variable {X:Cx} {a b:Expr} {ta tb:TE} {pos:Pos}
theorem Av {r:R2} (hr:EK X r) (ha:PE X a ta) (hb:PE X b tb) (hs:AL b):PE X (.Subscript a b pos) (Tb r ta tb):=by
 intro pins s σ H Q I h;exact Subscript_ (CO ha hb I h fun v u s2 x y H2 I2 rx ry q=>hr a b pins s2 σ H2 x y v u Q I2 rx ry q (hs _ _))
def EC (K:zAb):R2:=fun x y H Q=>∃ p xs i v,x = .ref p/\y = .int i/\SqL K H p xs/\Nt xs i=some v/\Q v H
def Xf (K:zAb):R2:=fun x y H Q=>∃ p xs i v,x = .ref p/\y = .int i/\SqT K H p xs/\Nt xs i=some v/\Q v H
def GL:R2:=fun x y H Q=>∃ z i c,x = .str z/\y = .int i/\z.length<=sizeLine/\Nt z.cps.toList i=some c/\Q (.str ⟨#[c]⟩) H
theorem Bu:EK X (EC X.K):=by
 intro value slice pins s σ H x y v u Q I rx ry h hs;obtain⟨p,xs,i,z,rfl,rfl,hq,he,q⟩:=h;cases rx;obtain⟨t,rfl⟩:=ry;obtain⟨its,r,pl,hz⟩:=I.list hq;obtain⟨j,h1,h2,h3,h4,h5⟩:=Tn he;obtain⟨w,ew,rw'⟩:=r.get h2;have hl:=r.length;have hn:=Ml;have fin:EP X pins σ Q w s:=⟨z,H,I,rw',q⟩;by_cases h0:0<=i
 ·have hj:i.toNat=j:=by
   rw[seqIndex_of h0 h5] at h1;exact Option.some.inj h1
  exact item_listR pl.isList h0 (by lia) (by rw[hj]; simpa using ew) fin hs
 ·have hj:(i+(its.toArray.size:Int)).toNat=j:=by
   rw[seqIndex_neg (by lia) h4] at h1;rw[zAd,<- hl];exact Option.some.inj h1
  exact subscriptTail_builtinR (x:=w) pl.isList.typeIs slot_list_getitem.lookup
   (wpAny_getItem_list_neg (Q:=fun r s'=>r=w/\EP X pins σ Q r s') pl.isList (by lia) (by rw[zAd] <;> lia) (by lia) (by rw[hj]; simpa using ew) ⟨rfl,fin⟩) hs
theorem Be:EK X (Xf X.K):=by
 intro value slice pins s σ H x y v u Q I rx ry h hs;obtain⟨p,xs,i,z,rfl,rfl,hq,he,q⟩:=h;cases rx;obtain⟨t,rfl⟩:=ry;obtain⟨its,r,pl,hz⟩:=I.tuple hq;obtain⟨j,h1,h2,h3,h4,h5⟩:=Tn he;obtain⟨w,ew,rw'⟩:=r.get h2;have hl:=r.length;have hn:=Ml;have fin:EP X pins σ Q w s:=⟨z,H,I,rw',q⟩;exact subscriptTail_builtinR (x:=w) pl.typeIs slot_tuple_getitem.lookup
  (getItem_tuple (j:=j) (Q:=fun r s'=>r=w/\EP X pins σ Q r s') pl (by lia) (by lia) (by rw[zAd,<- hl]; exact h1) (by simpa using ew) ⟨rfl,fin⟩) hs
theorem Pz:EK X GL:=by
 intro value slice pins s σ H x y v u Q I rx ry h hs;obtain⟨z,i,c,rfl,rfl,hz,he,q⟩:=h;obtain⟨t,rfl⟩:=rx;obtain⟨t',rfl⟩:=ry;obtain⟨j,h1,h2,h3,h4,h5⟩:=Tn he;have hl:z.cps.toList.length=z.length:=by simp [Str.length]
 rw[hl] at h1 h4 h5;have hn:=Ml;exact tail_any (typeIs_str s z t) slot_str_getitem.lookup (getItem_str (c:=c) (by
  have e1:decide (i < -(2^63:Int))=false:=decide_eq_false (by lia);have e2:decide (i≥2^63)=false:=decide_eq_false (by lia);rw[e1,e2,Bool.or_false]) (by rw[h1]; simpa using h2) ⟨.str ⟨#[c]⟩,H,I.tok _,⟨_,rfl⟩,q⟩) hs
theorem Zj (its:List Value) (n j:Nat) (u:Value):Obj.mapSeq (·.setIfInBounds j u) { cls:=.type "list",data:=.seq its.toArray n }={ cls:=.type "list",data:=.seq (its.set j u).toArray n }:=by
 simp [Obj.mapSeq]
theorem Inv.lst {pins:List (Addr×Obj)} {σ:St} {H:Hp} {s:Shared} {p:Addr} {xs:List V} (I:Inv X pins σ H s) (h:H p=some (.lst xs)) :
  ∃ (its:List Value) (n:Nat),Vals xs its/\s.heap.get? p=some { cls:=.type "list",data:=.seq its.toArray n }/\xs.length<=sizeLine:=by
 obtain⟨z,its,n,r,e⟩:=I.hok p _ h;exact⟨its,n,r,e,z⟩
theorem Inv.lstUpd {pins:List (Addr×Obj)} {σ:St} {H:Hp} {s:Shared} {p:Addr} {xs ys:List V} {its its':List Value} {n n':Nat} {f:Obj->Obj} (I:Inv X pins σ H s) (h:H p=some (.lst xs))
  (ho:s.heap.get? p=some { cls:=.type "list",data:=.seq its.toArray n }) (hf:f { cls:=.type "list",data:=.seq its.toArray n }={ cls:=.type "list",data:=.seq its'.toArray n' }) (r:Vals ys its') (hz:ys.length<=sizeLine) (t:Nat) :
  Inv X pins σ (upd H p (.lst ys)) { s with heap:=s.heap.update p f,toks:=t }:=by
 have e:(s.heap.update p f).get? p=some { cls:=.type "list",data:=.seq its'.toArray n' }:=by
  rw[zBj f ho (by rw[hf] <;> rfl),hf]
 refine I.write (x:=p) (e:=p) (by rw[h]; trivial) (.inl rfl) (fun b u hb q=>(zBf _ _ (Ne.symm hb)).trans q) ⟨_,e⟩ ?_;exact⟨hz,its',n',r,e⟩
def EM:V->V->V->Hp->(Hp->Prop)->Prop:=fun o i v H Q=>∃ p xs k j,o = .ref p/\i = .int k/\H p=some (.lst xs)/\CZ xs.length k=some j/\Q (upd H p (.lst (xs.set j v)))
theorem S0:FI X EM:=by
 intro pins s σ H o i v ov iv u Q I ro ri rv h;obtain⟨p,xs,k,j,rfl,rfl,hp,hj,q⟩:=h;cases ro;obtain⟨t,rfl⟩:=ri;obtain⟨its,n,r,ho,hz⟩:=I.lst hp;obtain⟨h1,h2,h3,h4⟩:=C8 hj;have hl:=r.length;have hn:=Ml;have I':Inv X pins σ (upd H p (.lst (xs.set j v))) { s with heap:=s.heap.update p (Obj.mapSeq (·.setIfInBounds j u)) }:=
  I.lstUpd hp ho (Zj its n j u) (r.set rv j) (by rw[List.length_set]; exact hz) s.toks
 by_cases h0:0<=k
 ·have hk:k.toNat=j:=by
   rw[seqIndex_of h0 h4] at h1;exact Option.some.inj h1
  exact PySem.W.ki_setAt ho h0 (by lia) (by rw[zAd,<- hl]; exact h4) (by rw[hk]; exact⟨_,I',q⟩)
 ·have hk:(k+(its.toArray.size:Int)).toNat=j:=by
   rw[seqIndex_neg (by lia) h3] at h1;rw[zAd,<- hl];exact Option.some.inj h1
  exact PySem.W.ki_setBack ho (by lia) (by rw[zAd,<- hl]; exact h3) (by lia) (by rw[hk]; exact⟨_,I',q⟩)
theorem Uj (lo hi:Option Int) (n:Nat):(sliceBounds lo hi none n).1=((HT.sIx n 0 lo:Nat):Int)/\(sliceBounds lo hi none n).2.1=((HT.sIx n n hi:Nat):Int)/\(sliceBounds lo hi none n).2.2=1:=by
 refine⟨?_,?_,rfl⟩
 ·cases lo with
  | none=>simp [sliceBounds,HT.sIx]
  | some i=>
   simp only [sliceBounds,HT.sIx,Option.getD_none,show (1:Int)>0 by decide,if_true];by_cases h:i<0
   ·simp only [h,if_true] <;> lia
   ·simp only [h,if_false] <;> lia
 ·cases hi with
  | none=>simp [sliceBounds,HT.sIx]
  | some i=>
   simp only [sliceBounds,HT.sIx,Option.getD_none,show (1:Int)>0 by decide,if_true];by_cases h:i<0
   ·simp only [h,if_true] <;> lia
   ·simp only [h,if_false] <;> lia
theorem Rj (its:List Value) (lo hi:Option Int):slicePick its.toArray lo hi none=((its.drop (HT.sIx its.length 0 lo)).take (HT.sIx its.length its.length hi-HT.sIx its.length 0 lo)).toArray:=by
 obtain⟨h1,h2,h3⟩:=Uj lo hi its.toArray.size;unfold slicePick;rw[h1,h2,h3];simp only [sliceRange_one,pick_run,zAd] <;> rfl
def HI (K:zAb):V->Option Int->Option Int->Hp->VK->Prop:=fun x lo hi H Q=>∃ a xs,x = .ref a/\SqL K H a xs/\∀ p,H p=none->Q (.ref p) (upd H p (.lst (Hd xs lo hi)))
theorem Oz:GB X (HI X.K):=by
 intro pins s σ H x v vl vu lo hi sl Q I rx hs pl pu h;obtain⟨a,xs,rfl,hx,q⟩:=h;cases rx;obtain⟨its,r,ht,hz⟩:=I.list hx;have hlen:=r.length;refine⟨"list",_,slot_list_getitem.lookup,ht.isList.typeIs,?_⟩;refine wpAny_getItem_list_slice ht.isList hs pl pu .none (by simp) ?_ (by rw[zAd] <;> lia);rw[Rj,<- hlen];refine⟨.ref s.heap.objs.size,_,I.laid (t':=s.toks) (o:=.lst (Hd xs lo hi)) (fun b ob q=>zAc _ q) (zAg _) ?_,rfl,q _ (I.hok.fresh (zAg _))⟩;exact⟨zAE (Nr xs lo hi) hz,_,0,(r.drop (HT.sIx xs.length 0 lo)).take (HT.sIx xs.length xs.length hi-HT.sIx xs.length 0 lo),zAv _ rfl⟩
def Ci:V->Bool
 | .non=>true
 | .bl _=>true
 | .int _=>true
 | .str _=>true
 | _=>false
def Sy:V->V->Bool
 | .non,.non=>true
 | .bl a,.bl b=>a==b
 | .bl a,.int b=>(if a then 1 else 0)==b
 | .int a,.bl b=>a==(if b then 1 else 0)
 | .int a,.int b=>a==b
 | .str a,.str b=>a==b
 | _,_=>false
theorem Zi {A:Around} {s:Shared} {y x:V} {u v:Value} (ry:RelV y u) (rx:RelV x v) (fy:Ci y=true) (fx:Ci x=true):SeqAt.EqAt A s u v (Sy y x):=by
 cases y with
 | non=>
  cases ry
  cases x with
  | non=>cases rx; exact SeqAt.EqAt.same _
  | bl b=>cases rx; exact SeqAt.EqAt.none_bool b
  | int b=>obtain⟨t,rfl⟩:=rx; exact SeqAt.EqAt.none_int b t
  | str b=>obtain⟨t,rfl⟩:=rx; exact SeqAt.EqAt.none_str b t
  | _=>exact absurd (show false=true from fx) zAi
 | bl a=>
  cases ry
  cases x with
  | non=>cases rx; exact SeqAt.EqAt.bool_none a
  | bl b=>cases rx; exact SeqAt.EqAt.bool_bool a b
  | int b=>obtain⟨t,rfl⟩:=rx; exact SeqAt.EqAt.bool_int a b t
  | str b=>obtain⟨t,rfl⟩:=rx; exact SeqAt.EqAt.bool_str a b t
  | _=>exact absurd (show false=true from fx) zAi
 | int a=>
  obtain⟨t',rfl⟩:=ry;cases x with
  | non=>cases rx; exact SeqAt.EqAt.int_none a t'
  | bl b=>cases rx; exact SeqAt.EqAt.int_bool a t' b
  | int b=>obtain⟨t,rfl⟩:=rx; exact SeqAt.EqAt.int_int a t' b t
  | str b=>obtain⟨t,rfl⟩:=rx; exact SeqAt.EqAt.int_str a t' b t
  | _=>exact absurd (show false=true from fx) zAi
 | str a=>
  obtain⟨t',rfl⟩:=ry;cases x with
  | non=>cases rx; exact SeqAt.EqAt.str_none a t'
  | bl b=>cases rx; exact SeqAt.EqAt.str_bool a t' b
  | int b=>obtain⟨t,rfl⟩:=rx; exact SeqAt.EqAt.str_int a t' b t
  | str b=>obtain⟨t,rfl⟩:=rx; exact SeqAt.EqAt.str_str a t' b t
  | _=>exact absurd (show false=true from fx) zAi
 | _=>exact absurd (show false=true from fy) zAi
def Ym (x:V) (u:Value):Bool:=match u with
 | .none=>Sy .non x
 | .bool b=>Sy (.bl b) x
 | .int i _=>Sy (.int i) x
 | .str z _=>Sy (.str z) x
 | _=>false
theorem O1 {x y:V} {u:Value} (r:RelV y u) (f:Ci y=true):Ym x u=Sy y x:=by
 cases y with
 | non=>cases r; rfl
 | bl b=>cases r; rfl
 | int i=>obtain⟨t,rfl⟩:=r; rfl
 | str z=>obtain⟨t,rfl⟩:=r; rfl
 | _=>exact absurd (show false=true from f) zAi
theorem Lv {x:V}:∀ {xs:List V} {us:List Value},Vals xs us->xs.all Ci=true->us.any (Ym x)=xs.any fun y=>Sy y x
 | _,_,.nil,_=>rfl
 | y::xs,u::us,.cons r t,f=>by
  rw[zBQ,zBe] at f;rw[zBL,zBL,O1 r f.1,Lv t f.2]
theorem Jl {A:Around} {s:Shared} {x:V} {v:Value} (rx:RelV x v) (fx:Ci x=true):∀ {xs:List V} {us:List Value},Vals xs us->xs.all Ci=true->∀ u∈us,SeqAt.EqAt A s u v (Ym x u)
 | _,_,.nil,_=>fun u hu=>by cases hu
 | y::xs,u::us,.cons r t,f=>fun u' hu=>by
  rw[zBQ,zBe] at f;rcases zAq.mp hu with rfl | hu
  ·rw[O1 r f.1]; exact Zi r rx f.1 fx
  ·exact Jl rx fx t f.2 u' hu
def Pn (x:V) (xs:List V):Bool:=xs.any fun y=>Sy y x
def GS (K:zAb) (neg:Bool):R2:=fun x y H Q=>∃ p xs,y = .ref p/\(SqL K H p xs\/SqT K H p xs)/\Ci x=true/\xs.all Ci=true/\Q (.bl (if neg then !Pn x xs else Pn x xs)) H
theorem Hh:Ir X (compareOp .In) (GS X.K false):=by
 intro pins s σ H x y v u Q I rx ry h;obtain⟨p,xs,rfl,hq,fx,fs,q⟩:=h;cases ry;rcases hq with hq | hq
 ·obtain⟨its,r,pl,hz⟩:=I.list hq
  refine SeqAt.in_listAt (Ym x) pl.isList (fun w hw=>Jl rx fx r fs w (by simpa using hw)) ⟨.bl _,H,I,rfl,?_⟩;rw[show its.toArray.any (Ym x)=its.any (Ym x) by simp,Lv r fs];exact q
 ·obtain⟨its,r,pl,hz⟩:=I.tuple hq
  refine SeqAt.in_tupleAt (Ym x) pl (fun w hw=>Jl rx fx r fs w (by simpa using hw)) ⟨.bl _,H,I,rfl,?_⟩;rw[show its.toArray.any (Ym x)=its.any (Ym x) by simp,Lv r fs];exact q
theorem Du:Ir X (compareOp .NotIn) (GS X.K true):=by
 intro pins s σ H x y v u Q I rx ry h;obtain⟨p,xs,rfl,hq,fx,fs,q⟩:=h;cases ry;rcases hq with hq | hq
 ·obtain⟨its,r,pl,hz⟩:=I.list hq
  refine SeqAt.notIn_listAt (Ym x) pl.isList (fun w hw=>Jl rx fx r fs w (by simpa using hw)) ⟨.bl _,H,I,rfl,?_⟩;rw[show its.toArray.any (Ym x)=its.any (Ym x) by simp,Lv r fs];exact q
 ·obtain⟨its,r,pl,hz⟩:=I.tuple hq
  refine SeqAt.notIn_tupleAt (Ym x) pl (fun w hw=>Jl rx fx r fs w (by simpa using hw)) ⟨.bl _,H,I,rfl,?_⟩;rw[show its.toArray.any (Ym x)=its.any (Ym x) by simp,Lv r fs];exact q
theorem Tk:Ir X (compareOp .NotIn) (fun x y H Q=>∃ i j,x = .str i/\y = .str j/\Q (.bl (!(!(Builtin.Str.occurrences j i 0 j.length 1).isEmpty))) H):=by
 intro pins s σ H x y v u Q I rx ry h;obtain⟨i,j,rfl,rfl,q⟩:=h;obtain⟨t,rfl⟩:=rx;obtain⟨t',rfl⟩:=ry;exact notIn_str ⟨.bl _,H,I,rfl,q⟩
theorem Bk:Kb X (.builtin "len") (fun xs H Q=>∃ p ys,xs=[.ref p]/\(SqL X.K H p ys\/SqT X.K H p ys)/\Q (.int ys.length) H):=by
 intro pins s σ H xs us Q I r h;obtain⟨p,ys,rfl,hq,q⟩:=h;obtain⟨u,rfl,rx⟩:=Lk r;cases rx;have hn:=Ml;rcases hq with hq | hq
 ·obtain⟨its,r',pl,hz⟩:=I.list hq
  have hlen:=r'.length;exact Calls.call_len_list pl.isList (by simp only [zAd] <;> lia) ⟨.int ys.length,H,I.tok _,⟨s.toks+1,by rw[zAd,hlen]⟩,q⟩
 ·obtain⟨its,r',pl,hz⟩:=I.tuple hq
  have hlen:=r'.length;exact len_tuple pl (by simp only [zAd] <;> lia) ⟨.int ys.length,H,I.tok _,⟨s.toks+1,by rw[zAd,hlen]⟩,q⟩
theorem Ih:Kb X (.builtin "len") (fun xs H Q=>∃ z,xs=[.str z]/\z.length<=sizeLine/\Q (.int z.length) H):=by
 intro pins s σ H xs us Q I r h;obtain⟨z,rfl,hz,q⟩:=h;obtain⟨u,rfl,t,rfl⟩:=Lk r;have hn:=Ml;exact len_str (by lia) ⟨.int z.length,H,I.tok _,⟨_,rfl⟩,q⟩
theorem Dc:Kb X (.type "list") (fun xs H Q=>∃ p ys,xs=[.ref p]/\(SqL X.K H p ys\/SqT X.K H p ys)/\∀ l,H l=none->Q (.ref l) (upd H l (.lst ys))):=by
 intro pins s σ H xs us Q I r h;obtain⟨p,ys,rfl,hq,q⟩:=h;obtain⟨u,rfl,rx⟩:=Lk r;cases rx;have fin:∀ (its:List Value),Vals ys its->ys.length<=sizeLine->∀ (h':Heap) (c':Nat),(∀ b o',s.heap.get? b=some o'->h'.get? b=some o') ->
   h'.get? s.heap.objs.size=some { cls:=.type "list",dict:=none,data:=.seq its.toArray c',slots := #[] }->EP X pins σ Q (.ref s.heap.objs.size) { s with heap:=h' }:=fun its r' hz h' c' kp e=>
  ⟨.ref s.heap.objs.size,_,I.laid (t':=s.toks) kp (zAg _) (show ObjOk X.prog X.w _ h' _ (.lst ys) from ⟨hz,its,c',r',e⟩),rfl,q _ (I.hok.fresh (zAg _))⟩
 rcases hq with hq | hq
 ·obtain⟨its,r',pl,hz⟩:=I.list hq
  have hlen:=r'.length;obtain⟨o,ho,hc,n,hd⟩:=pl.isList;exact call_list_seq p (.inl rfl) ho hc hd (fun h' c' kp e=>fin its r' hz h' c' kp e) (by simp only [zAd] <;> lia)
 ·obtain⟨its,r',pl,hz⟩:=I.tuple hq
  have hlen:=r'.length;obtain⟨o,ho,hc,n,hd⟩:=pl;exact call_list_seq p (.inr rfl) ho hc hd (fun h' c' kp e=>fin its r' hz h' c' kp e) (by simp only [zAd] <;> lia)
def HN (K:zAb) (T:String) (x:V) (H:Hp):Prop:=match x with
 | .str _=>T = "str"
 | .int _=>T = "int"
 | .ref p=>(T = "list"/\∃ xs,SqL K H p xs)\/(T = "tuple"/\∃ o,K.lookup p=some o/\o.cls = .type "tuple"/\o.dict=none) \/
   (T = "dict"/\((∃ kvs,H p=some (.dK kvs))\/∃ kvs,H p=some (.dT kvs)))\/(T = "set"/\∃ S n,H p=some (.set S n))
 | _=>False
theorem CU {pins:List (Addr×Obj)} {σ:St} {H:Hp} {s:Shared} {T:String} {x:V} {v:Value} (I:Inv X pins σ H s) (r:RelV x v) (ty:HN X.K T x H) :
  s.TypeIs v T/\∀ a,v = .ref a->∃ ob,s.heap.get? a=some ob/\ob.dict=none:=by
 cases x with
 | str z=>
  obtain⟨t,rfl⟩:=r;cases (show T = "str" from ty);exact⟨typeIs_str s z t,fun _ e=>nomatch e⟩
 | int i=>
  obtain⟨t,rfl⟩:=r;cases (show T = "int" from ty);exact⟨typeIs_int s i t,fun _ e=>nomatch e⟩
 | ref p=>
  cases r
  rcases ty with ⟨rfl,xs,hq⟩ | ⟨rfl,o,hk,hc,hd⟩ | ⟨rfl,hk⟩ | ⟨rfl,S,n,hk⟩
  ·obtain⟨its,_,pl,_⟩:=I.list hq
   refine⟨pl.isList.typeIs,fun a e=>?_⟩;cases e;obtain⟨o,n,e,c,hd,_⟩:=pl;exact⟨o,e,hd⟩
  ·refine⟨⟨o,I.kIn p o hk,hc⟩,fun a e=>?_⟩
   cases e
   exact⟨o,I.kIn _ o hk,hd⟩
  ·have z:∃ o,s.heap.get? p=some o/\o.ExactDict:=by
    rcases hk with ⟨kvs,hk⟩ | ⟨kvs,hk⟩
    ·obtain⟨_,_,_,_,o,_,_,e,ex,_⟩:=I.hok p _ hk
     exact⟨o,e,ex⟩
    ·obtain⟨_,_,_,_,o,_,_,e,ex,_⟩:=I.hok p _ hk
     exact⟨o,e,ex⟩
   obtain⟨o,e,ex⟩:=z;refine⟨⟨o,e,ex.1⟩,fun a e2=>?_⟩;cases e2;exact⟨o,e,ex.2.1⟩
  ·obtain⟨o,_,_,_,e,ex,_⟩:=I.hok p _ hk
   refine⟨⟨o,e,ex.1⟩,fun a e2=>?_⟩;cases e2;exact⟨o,e,ex.2.1⟩
 | _=>exact False.elim ty
def IE (K:zAb) (T:String) (r:V->List V->Hp->VK->Prop) (to:TE) (t:TA):TE:=fun σ H Q=>to σ H fun x H1=>HN K T x H1/\t σ H1 fun xs H2=>r x xs H2 Q
variable {o e:Expr} {es:List Expr} {to:TE} {t:TA} {name:Str} {apos cpos:Pos} {T id:String} {r:V->List V->Hp->VK->Prop}
theorem Oe (pa:PlainAttrs T) (slot:Slot T name id) (hty:typeOf (.builtin id)=pure (.type "method_descriptor")) (hm:HQ X id r) (ho:PE X o to) (ha:PA X (e::es) t)
  (hbase:attributeBase o name X.env (eval o X.env)=eval o X.env:=by rfl)
  (hfew:((backTo cpos (starEach (e::es) X.env)).all (fun x => !x.1)&&(backToKw cpos (keywordEach [] X.env)).all (fun x=>x.1.isSome)
   && decide ((e::es).length+([]:List Keyword).length+(if ([]:List Keyword).isEmpty then 0 else 1)<30))=true:=by rfl)
  (hline:(apos.endLine==cpos.line)=true:=by rfl) (hs:starEach (e::es) X.env=(false,eval e X.env)::starEach es X.env:=by rfl) (hplain:(backTo cpos (starEach es X.env)).any (·.1)=false:=by rfl) :
  PE X (.Call (.Attribute o name apos) (e::es) [] cpos) (IE X.K T r to t):=by
 intro pins s σ H Q I h;refine wpAny_Call_method_late hbase hfew hline rfl (Cn (ho pins s σ H _ I h) fun v s1 ⟨x,H1,I1,r1,ty,q1⟩=>?_);obtain⟨h1,h2⟩:=CU I1 r1 ty;refine⟨T,id,pa,slot,hty,h1,h2,?_⟩;have hA:=ha cpos pins s1 σ H1 _ I1 q1;rw[hs] at hA ⊢;refine Calls.callWith_builtin (by show (false||(backTo cpos (starEach es X.env)).any (·.1))=false; rw[hplain] <;> rfl) (Calls.evalArgs_plain ?_);exact Cn hA fun us s2 ⟨vs,H2,I2,r2,q2⟩=>hm pins s2 σ H2 x vs v us Q I2 r1 r2 q2
/- xs.append(e),list.index on a module's tuple .. are HQ facts of 06m -/
end
def HR (X:Cx) (id:String) (r:V->List V->Hp->VK->Prop):Prop:=
 ∀ (pins:List (Addr×Obj)) (s:Shared) (σ:St) (H:Hp) (x:V) (xs:List V) (v:Value) (us:List Value) (Q:VK),Inv X pins σ H s->RelV x v->Vals xs us->r x xs H Q ->
  wpAny (model X.prog X.w) X.A (call (.builtin id) (v::us)) (EP X pins σ Q) X.xe s
theorem Vals.one:∀ {x:V} {us:List Value},Vals [x] us->∃ u,us=[u]/\RelV x u
 | _,_,.cons r .nil=>⟨_,rfl,r⟩
section
variable {X:Cx} {pins:List (Addr×Obj)} {σ:St} {H:Hp} {s:Shared} {l b:Addr} {xs ys zs:List V}
theorem Inv.lset {its its':List Value} {n:Nat} {f:Array Value->Array Value} {t':Nat} (I:Inv X pins σ H s) (hH:H l=some (.lst xs))
  (e:s.heap.get? l=some { cls:=.type "list",data:=.seq its.toArray n }) (hf:f its.toArray=its'.toArray) (hv:Vals ys its') (hz:ys.length<=sizeLine) :
  Inv X pins σ (upd H l (.lst ys)) { s with heap:=s.heap.update l (Obj.mapSeq f),toks:=t' }:=by
 have q:=PySem.IsL.update e f;rw[hf] at q;refine I.write (x:=l) (e:=l) (by rw[hH]; exact trivial) (.inl rfl) (fun b' u hb hu=>(zBf s.heap (Obj.mapSeq f) (Ne.symm hb)).trans hu) ⟨_,q⟩ ?_;exact⟨hz,its',_,hv,q⟩
theorem Inv.lnew {its:List Value} {t':Nat} (I:Inv X pins σ H s) (hv:Vals ys its) (hz:ys.length<=sizeLine) :
  Inv X pins σ (upd H s.heap.objs.size (.lst ys)) { s with heap:=s.heap.push { cls:=.type "list",data:=.seq its.toArray },toks:=t' }:=
 I.laid (fun _ _ q=>zAc _ q) (zAg _) ⟨hz,its,0,hv,zAv _ rfl⟩
theorem Inv.fresh (I:Inv X pins σ H s):H s.heap.objs.size=none:=I.hok.fresh (zAg _)
theorem Inv.lstM (I:Inv X pins σ H s) (hH:H l=some (.lst xs)):xs.length<=sizeLine/\∃ (its:List Value) (n:Nat),Vals xs its/\xs.length=its.length/\s.heap.get? l=some { cls:=.type "list",data:=.seq its.toArray n }:=by
 obtain⟨z,its,n,r,e⟩:=I.hok l _ hH;exact⟨z,its,n,r,r.length,e⟩
theorem U4 {n:Nat} (h:n<=sizeLine):Builtin.List.listTooLong n=false:=by
 unfold Builtin.List.listTooLong;exact decide_eq_false (by lia)
end
section
variable {X:Cx}
def AM:V->List V->Hp->VK->Prop:=fun x vs H Q=>∃ l xs y,x = .ref l/\vs=[y]/\H l=some (.lst xs)/\xs.length<sizeLine/\Q .non (upd H l (.lst (xs++[y])))
theorem Fx:HR X "list.append" AM:=by
 intro pins s σ H x vs v us Q I rx rv h;obtain⟨l,xs,y,rfl,rfl,hH,hz,q⟩:=h;cases rx;obtain⟨u,rfl,ru⟩:=rv.one;obtain⟨z,its,n,r,hl,e⟩:=I.lstM hH;refine call_meets F.slot_list_append ⟨_,e,rfl⟩ F.entry_list_append (F.args_list_append_2 _ _) (PySem.list_append l its.toArray n u (by rw[zAd]; lia)) ⟨e,?_⟩;refine⟨.non,_,I.lset (its':=its++[u]) hH e (by simp) (r.append (.cons ru .nil)) ?_,rfl,q⟩;rw[zAe,List.length_singleton]
 lia
def AG:V->List V->Hp->VK->Prop:=fun x vs H Q=>∃ l b xs zs,x = .ref l/\vs=[.ref b]/\H l=some (.lst xs)/\H b=some (.lst zs)/\xs.length+zs.length<=sizeLine/\Q .non (upd H l (.lst (xs++zs)))
theorem Mz:HR X "list.extend" AG:=by
 intro pins s σ H x vs v us Q I rx rv h;obtain⟨l,b,xs,zs,rfl,rfl,hH,hB,hz,q⟩:=h;cases rx;obtain⟨u,rfl,ru⟩:=rv.one;cases ru;obtain⟨z,its,n,r,hl,e⟩:=I.lstM hH;obtain⟨z2,its2,n2,r2,hl2,e2⟩:=I.lstM hB;have hsz:its.toArray.size+its2.toArray.size<=sizeLine:=by rw[zAd,zAd]; lia
 have hlong:¬ (!its.toArray.isEmpty&&Builtin.List.listTooLong (its.toArray.size+its2.toArray.size))=true:=by
  rw[U4 hsz,zCj];exact zAi
 refine call_meets F.slot_list_extend ⟨_,e,rfl⟩ F.entry_list_extend (F.args_list_extend_2 _ _)
  (AutoSeq1.list_extend_list_list_0 l its.toArray n b its2.toArray n2 hlong (by rw[zAd]; lia) (by lia)) ⟨e,e2,?_⟩
 refine⟨.non,_,I.lset (its':=its++its2) hH e (by simp) (r.append r2) ?_,rfl,q⟩;rw[zAe]
 lia
def ER:R2:=fun x y H Q=>∃ l b xs zs,x = .ref l/\y = .ref b/\H l=some (.lst xs)/\H b=some (.lst zs)/\xs.length+zs.length<=sizeLine/\∀ p,H p=none->Q (.ref p) (upd H p (.lst (xs++zs)))
theorem Dz:Ir X (binaryOp .Add) ER:=by
 intro pins s σ H x y v u Q I rx ry h;obtain⟨l,b,xs,zs,rfl,rfl,hH,hB,hz,q⟩:=h;cases rx;cases ry;obtain⟨z,its,n,r,hl,e⟩:=I.lstM hH;obtain⟨z2,its2,n2,r2,hl2,e2⟩:=I.lstM hB;refine PySem.P.add_list e e2 ?_ (by rw[zAd,zAd]; lia);have ea:its.toArray++its2.toArray=(its++its2).toArray:=by simp
 rw[ea];exact⟨.ref _,_,I.lnew (t':=s.toks) (r.append r2) (by rw[zAe]; lia),rfl,q _ I.fresh⟩
theorem Y5 {α:Type} (xs:List α) (k:Nat):(zAD k xs).flatten.length=k*xs.length:=by
 induction k with
 | zero=>simp
 | succ k ih=>rw[zBP,zBi,zAe,ih,zBO,Nat.add_comm]
end
section
variable {prog:Program} {w:World} {A:Around} {E:Value->Shared->Prop} {s:Shared}
end
section
variable {X:Cx}
end
end L2
namespace Att
open PySem PySem.W PySem.Calls PyProof.Rows
theorem Ol {P:Params} {h:Heap}:∀ (ns:List Int) (vs:List Value),WellAll P h vs (ns.map WData.int)->IntsAre vs ns:=by
 intro ns
 induction ns with
 | nil=>
  intro vs w;rw[zBr] at w;cases w;exact .nil
 | cons n ns ih=>
  intro vs w;rw[zAw] at w;cases w with
  | cons a b=>
   cases a
   exact .cons _ _ (ih _ b)
theorem G8 {l:OpenLaw} {n:Nat} (hn:l.most=some n) {P:Params} {h:Heap} {args:List WData} {vals:List Value}
  (hpre:l.row.toRowW.claim.pre args=true) (hwl:WellAll P h vals args) :
  ∃ a vs ns,vals=[Value.ref a]/\args=[WData.list (ns.map WData.int)]/\h.get? a=some { cls:=.type "list",data:=.seq vs.toArray }/\IntsAre vs ns/\ns.length<=n:=by
 have hsh:WShape.hasAll [] args [.list .int]=true:=(pre_splitW hpre).1;have hc:l.pre.holds [] { args:=args }=true:=(pre_splitW hpre).2;obtain⟨d,r,rfl,h1,h2⟩:=hasAllW_cons hsh;obtain rfl:=hasAllW_nil h2;obtain⟨xs,rfl,h3⟩:=hasW_list h1;obtain⟨ns,rfl⟩:=items_int h3;have hlen:ns.length<=n:=by
  unfold OpenLaw.pre at hc;have h4:(WTm.not (.lt (.lit (.int (n:Int))) (.len (.arg 0)))).holds [] { args:=[.list (ns.map .int)] }=true:=by
   have h4:=(holds_andW hc).1;rw[hn] at h4;exact h4
  have h5:=condW_of h4 (w_not (w_lt w_lit (w_len_list (w_arg rfl))));rw[zAa] at h5;refine Nat.le_of_not_lt fun q=>?_;have q':(n:Int)<((ns.length:Nat):Int):=by lia
  first
   | (rw[decide_eq_true q'] at h5; exact absurd h5 (by decide))
   | (simp at h5; lia)
 cases hwl with
 | cons w1 w2=>
  cases w2
  cases w1 with
  | list ho hall=>exact⟨_,_,ns,rfl,rfl,ho,Ol ns _ hall,hlen⟩
theorem L5 (l:OpenLaw) (args:List WData):l.row.toRowW.claim.post args (.bool true) args=true:=
 postW_of (r:=l.row.toRowW) (X:=(true==true))
  (show WShape.has [] (.bool true) .bool=true by first | rfl | decide | simp [WShape.has,WShape.arms,WShape.armsAll])
  (show (WTm.eq .res (.lit (.bool true))).value [] { args:=args,res:=some (.bool true),after:=args }=some (.bool (true==true)) from w_eq_bool (w_res rfl) w_lit) rfl
theorem attach_call {l:OpenLaw} {n:Nat} {q:Program} {loose:List Str} {XP:(Str->Option Value)->Heap->Prop} {YP:World->Heap->Prop} {d:DefRec}
  (hn:l.most=some n) (hdf:d.params.defaults=[])
  (call:∀ (w:World) (s₀ s₁ : Shared) (mg mb:Str->Option Value) (fa:Addr) (o:Obj) (pm cd doc:Value) (a:Addr) (vs:List Value) (ns:List Int),
   Ground q loose [] XP w s₀ mg mb s₁.heap->YP w s₁.heap ->
   s₁.heap.get? fa=some o->o.data = .func (docDef d.name d.params d.body d.scope pm cd doc)->s₁.heap.CodeRec cd d.name->mg d.name=some (.ref fa) ->
   s₁.heap.get? a=some { cls:=.type "list",data:=.seq vs.toArray }->IntsAre vs ns->ns.length<=n->s₁.gens = #[] ->
   codeAny (model l.prog w) callerA (.call (.ref fa) ⟨[.ref a],[]⟩) (fun r s'=>r = .ok (.ret (.bool true))/\OldK s₁.heap s'.heap/\s'.os=s₁.os/\AllBare s'.gens) s₁) :
  WalkO q loose XP YP l.row.toRowW d [] (fun f vs=>PySem.call f vs):=by
 intro w s₀ s₁ mg mb G Y fa o pm cd doc dV kV ho hd hcd hD hmg hg args vals as hpre hlay hrd hwl hlo;obtain rfl:dV = .none:=Dflts.none hD hdf;obtain rfl:kV = .none:=Dflts.noKw hD;obtain⟨a,vs,ns,rfl,rfl,hobj,hints,hlen⟩:=G8 hn hpre hwl;refine enter_call (codeAny_mono (call w s₀ s₁ mg mb fa o pm cd doc a vs ns G Y ho (fd_plain hd) hcd hmg hobj hints hlen hg) fun r s' hq=>?_);obtain⟨rfl,h2,h3,h4⟩:=hq;exact⟨.inl ⟨.bool true,.bool true,[],rfl,fun _=>rfl,.bool true,L5 l _,fun _=>⟨List.Pairwise.nil,fun _ hm=>(nomatch hm)⟩⟩,h2,h3,h4⟩
section
variable {prog:Program} {w:World} {A:Around} {E:Value->Shared->Prop} {s:Shared} {K:Frag}
end
end Att
namespace L2
open PySem PySem.Spec PyProof.Rows
theorem Sr:∀ {vs:List Value} {ns:List Int},IntsAre vs ns->Vals (ns.map V.int) vs
 | _,_,.nil=>.nil
 | _,_,.cons n t h=>.cons ⟨t,rfl⟩ (Sr h)
def CY (H:Hp):Prop:=∀ b,H b=none\/∃ o xs,H b=some (.frz o (.lst xs))
theorem U2 {P:Program} {w:World} {K:zAb} {mg mb:Str->Option Value} {CX:L1} {k:Nat} {fa a:Addr} {fd:zCt} {x:Str} {sp:Sp} {s₁ : Shared} {vs:List Value} {ns:List Int}
  (KX:K.In s₁.heap) (hns:s₁.heap.Ns zCu mg) (hb:s₁.heap.Ns builtinsNs mb) (hbb:∀ x:Str,x ≠ "__name__" -> mb x=zCs x) (hlim:s₁.heap.NoLimit) (hg:s₁.gens = #[])
  (ha:s₁.heap.get? a=some { cls:=.type "list",data:=.seq vs.toArray }) (hi:IntsAre vs ns) (hl:ns.length<=sizeLine) (hr:Room k callerA)
  (F:∀ base:Heap,K.In base->base.Ns zCu mg->FnOk P w K mg base CX k fa fd [x] sp) (hbind:∀ (s:Shared) (u:Value),BindsTo s fd ⟨[u],[]⟩ [(x,u)])
  (hsp:∀ H:Hp,CY H->SqL K H a (ns.map V.int)->sp [.ref a] H (fun v _=>v = .bl true) fun _ _ _=>False)
  (hCX:∀ H e s',CX [] H s₁ (fun _ _ _=>False) e s'->False) :
  codeAny (model P w) callerA (.call (.ref fa) ⟨[.ref a],[]⟩) (fun r s'=>r = .ok (.ret (.bool true))/\OldK s₁.heap s'.heap/\s'.os=s₁.os/\AllBare s'.gens) s₁ := by
 have rv:=Sr hi;have lenV:=hi.length;have core:∀ H:Hp,CY H->SqL K H a (ns.map V.int)->HOk P w H s₁.heap->(∀ b,H b≠none->b=a)->(H a≠none->K.lookup a=none) ->
   codeAny (model P w) callerA (.call (.ref fa) ⟨[.ref a],[]⟩) (fun r s'=>r = .ok (.ret (.bool true))/\OldK s₁.heap s'.heap/\s'.os=s₁.os/\AllBare s'.gens) s₁ := by
  intro H hO hS hok hA hK;have base_of:∀ {b:Addr} {o:Obj},s₁.heap.get? b=some o->H b=none->(Uy s₁.heap H).get? b=some o:=fun e n=>P0 e n;have noA:∀ {b:Addr} {o:Obj} {es:Array DictEntry} {ep:Nat},s₁.heap.get? b=some o->o.data = .dict es ep->H b=none:=fun {b o es ep} e d=>by
   cases q:H b with
   | none=>rfl
   | some u=>
    have e':b=a:=hA b (by rw[q]; simp);subst e';rw[ha] at e; cases e;have d':Data.seq vs.toArray _=Data.dict es ep:=d;cases d'
  have nsK:∀ {b:Addr} {m:Str->Option Value},s₁.heap.Ns b m->(Uy s₁.heap H).Ns b m:=fun {b m} ⟨o,es,ep,e,d,r⟩=>⟨o,es,ep,base_of e (noA e d),d,r⟩;have hKb:K.In (Uy s₁.heap H):=fun b o e=>base_of (KX b o e) (by
   cases q:H b with
   | none=>rfl
   | some u=>
    have e':b=a:=hA b (by rw[q]; simp);subst e';rw[hK (by rw[q]; simp)] at e; cases e)
  have hM:Mod K mg (Uy s₁.heap H):=⟨hKb,nsK hns,⟨mb,nsK hb,hbb⟩,let ⟨mc,h1,h2⟩:=hlim; ⟨mc,nsK h1,h2⟩⟩;have e0:Env0 P w K mg (Uy s₁.heap H) callerA [] s₁ H:=⟨rfl,hM,fun b o e=>Z8 e,Nat.le_of_eq (L7 _ _),trivial,fun b hb=>absurd (show b∈([]:List Addr) from hb) (by simp),hok,.of_eq hg⟩;refine codeAny_mono ((F _ hKb (nsK hns)).run callerA [] s₁ H ⟨[.ref a],[]⟩ [.ref a] [.ref a] _ _ hr e0 (hbind s₁ (.ref a)) (.cons rfl .nil) (hsp H hO hS)) fun r s' h=>?_;cases r with
  | error e=>exact (hCX H e s' h).elim
  | ok fl=>
   cases fl with
   | next=>exact False.elim h
   | brk=>exact False.elim h
   | cont=>exact False.elim h
   | ret u=>
    obtain⟨v,H',os,bare,un,hok',r',q⟩:=h;have q':v = .bl true:=q;subst q';obtain rfl:u=Value.bool true:=r';refine⟨rfl,OldK.of_keep fun b o e=>?_,os,bare⟩;cases q:H b with
    | none=>exact un.keep b o e q (by intro z; exact absurd (show b∈([]:List Addr) from z) (by simp)) (by simp)
    | some u=>
     rcases hO b with z | ⟨ob,xs,z⟩
     ·rw[q] at z; cases z
     ·have z2:=un.frzs b ob _ z
      obtain⟨e1,_⟩:=hok b _ z;obtain⟨e2,_⟩:=hok' b _ z2;rw[e] at e1; cases e1;exact e2
 cases hk:K.lookup a with
 | some o=>
  have e:=KX a o hk;rw[ha] at e;cases e;refine core (fun _=>none) (fun _=>.inl rfl) (.inr ⟨_,vs.toArray,_,hk,rfl,rfl,rfl,by rw[zAd,lenV]; exact hl,by simpa using rv⟩) (fun b u z=>by have z':(none:Option HO)=some u:=z; cases z') (fun b z=>absurd rfl z) fun z=>absurd rfl z
 | none=>
  refine core (fun b=>if b=a then some (.frz { cls:=.type "list",data:=.seq vs.toArray } (.lst (ns.map V.int))) else none) (fun b=>?_) (.inl (.inr ⟨{ cls:=.type "list",data:=.seq vs.toArray },if_pos rfl⟩)) (fun b u z=>?_) (fun b z=>?_) fun _=>hk
  ·by_cases hb:b=a
   ·exact .inr ⟨_,_,if_pos hb⟩
   ·exact .inl (if_neg hb)
  ·by_cases hb:b=a
   ·have z':=(if_pos hb).symm.trans z
    cases z'
    subst hb;exact⟨ha,by rw[zAa]; exact hl,vs,_,rv,ha⟩
   ·have z':=(if_neg hb).symm.trans z
    cases z'
  ·by_cases hb:b=a
   ·exact hb
   ·exact absurd (if_neg hb) z
theorem walk_of {l:PySem.W.OpenLaw} {n k:Nat} {q:Program} {loose:List Str} {XP:(Str->Option Value)->Heap->Prop} {YP:World->Heap->Prop} {d:DefRec} {K:Params->zAb} {CX:World->L1} {sp:World->Sp} {x:Str}
  (hn:l.most=some n) (hn2:n<=sizeLine) (hdf:d.params.defaults=[]) (hr:Room k callerA)
  (hY:∀ (w:World) (h:Heap),YP w h->(K w.params).In h)
  (F:∀ (w:World) (mg:Str->Option Value) (fa:Addr) (h:Heap),(K w.params).In h->h.Ns zCu mg->mg d.name=some (.ref fa) ->
   ∃ fd:zCt,(∀ (s:Shared) (u:Value),BindsTo s fd ⟨[u],[]⟩ [(x,u)]) /\
    ∀ base:Heap,(K w.params).In base->base.Ns zCu mg->FnOk l.prog w (K w.params) mg base (CX w) k fa fd [x] (sp w))
  (hsp:∀ (w:World) (H:Hp) (a:Addr) (ns:List Int),ns.length<=n->CY H->SqL (K w.params) H a (ns.map V.int)->sp w [.ref a] H (fun v _=>v = .bl true) fun _ _ _=>False)
  (hCX:∀ (w:World) (H:Hp) (s:Shared) (e:Value) (s':Shared),CX w [] H s (fun _ _ _=>False) e s'->False) :
  PySem.W.WalkO q loose XP YP l.row.toRowW d [] (fun f vs=>PySem.call f vs):=by
 refine Att.attach_call hn hdf fun w s₀ s₁ mg mb fa o pm cd doc a vs ns G Y ho hd hcd hmg hobj hints hlen hg=>?_;have KX:=hY w _ Y;obtain⟨fd,hb,hF⟩:=F w mg fa _ KX G.T.g hmg;exact U2 KX G.T.g G.T.b G.T.builtins G.T.nolimit hg hobj hints (zAE hlen hn2) hr hF hb (fun H hO hS=>hsp w H a ns hlen hO hS) fun H e s'=>hCX w H s₁ e s'
end L2
/- THE LAST THEOREM (shape; LID,My.* are yours):
   My.Adr: a structure of the addresses that your layer names (classes,functions); My.Txt K t: a structure (Prop) of the equations over K;
   My.txt_mk:{K} {implicit addresses ..} (e1:nsIn K zCu "law" = some (some (.ref f))) (e2:K.lookup f=some ⟨oc,od,.func (fnOf "law" "law" params body scope dV kV doc pm an cdv ct),sl⟩) (e3:codeIn K cdv "law" = true) .. : ∃ t,My.Txt K t
set_option tactic.hygienic true in
theorem PySem.Challenge.cw_LID_holds : PySem.Challenge.rw_LID.Holds := by
 w_on; o_law; k_head; (case hw=>w_witness2)
 k_fill
 refine L2.walk_of (l:=PySem.Challenge.rw_LID) (n:=63) (k:=40) (x := "script") (CX:=fun w=>..) (sp:=fun _=>My.sp_law) rfl (by decide) rfl ⟨rfl,by decide,by decide⟩ (fun w h Y=>PySem.W.kIn_of Y) ?F ?S ?C
 case F=>
  intro w mg fa h KX G hmg;have T:∃ t,My.Txt (L2.KOf KX) t:=by
   dsimp only [L2.KOf]                          -- K must stand as «<heap const> w.params» for k_is
   refine' My.txt_mk ?e1 ?e2 ?e3 ..
   (case e1=>PySem.W.k_is)                    -- in the order: a name -> its address -> its object -> its parts
   (case e2=>PySem.W.k_is)
   ..
  obtain⟨t,T⟩:=T;have e0:=hmg.symm.trans (zAF KX G T.law);cases e0                                       -- fa is the law's own address;exact⟨_,fun s u=>.of_eq rfl,fun base kb nb=>My.law_fn T kb nb⟩     -- if «.of_eq rfl» comes too early: refine' ⟨_,?b,fun base kb nb=>My.law_fn T kb nb⟩; exact fun s u=>.of_eq rfl
 case S=>exact fun w H a ns hl hO hS=>..
 case C=>exact ..
(the tactic k_is has no namespace: write k_is) -/
namespace L2
open PySem PySem.Spec PyProof.Rows
def Cq (s:Stmt) (j:Nat):Stmt:=match s with
 | .ClassDef _ _ _ body _ _ _ _ _ _ _=>body.getD j (.Pass ⟨0,0,0,0⟩)
 | _=>.Pass ⟨0,0,0,0⟩
def De (s:Stmt):Arguments:=match s with
 | .FunctionDef _ a _ _ _ _ _ _ _ _=>a
 | _=>{ posonlyargs:=[],args:=[],vararg:=none,kwonlyargs:=[],kw_defaults:=[],kwarg:=none,defaults:=[] }
def Cs (s:Stmt):List Stmt:=match s with
 | .FunctionDef _ _ b _ _ _ _ _ _ _=>b
 | _=>[]
def An (s:Stmt):Scope:=match s with
 | .FunctionDef _ _ _ _ _ _ sc _ _ _=>sc
 | _=>{ kind:=.function,names:=[],isGenerator:=false,isCoroutine:=false }
abbrev Dv:L1:=fun _ _ _ _ _ _=>False
abbrev E0:XK:=fun _ _ _=>False
theorem V3 {X:Cx}:Pw Dv X E0:=fun _ _ _ _ _ _ _ h=>h.elim
structure Fun (K:zAb) (x qual:Str) (st:Stmt) (f:Addr) (fd:zCt):Prop where
 ex:∃ (oc:Value) (od:Option Addr) (kV doc pm:Value) (an:Option Addr) (cdv ct:Value) (osl:Array (Option Value)),
  fd=zAV x qual (De st) (Cs st) (An st) .none kV doc pm an cdv ct/\K.lookup f=some ⟨oc,od,.func fd,osl⟩/\zBu K cdv qual=true
 kp:zAX K (.ref f)=true
section
variable {P:Program} {w:World} {K:zAb} {mg:Str->Option Value} {base:Heap}
theorem Fun.ok {x qual:Str} {st:Stmt} {f:Addr} {fd:zCt} {N ps:List Str} {k:Nat} {sp:Sp} (F:Fun K x qual st f fd) (S:Bb N ps (An st)) (len:∀ vs H Q E,sp vs H Q E->vs.length=ps.length)
  (hbody:∀ (cdv:Value) (A:Around) (outer:List Env) (s:Shared) (H:Hp) (vs:List V) (Q:VK) (E:XK),Room k (A.deeper (envOfC qual (An st) s.heap.objs.size f cdv))->sp vs H Q E ->
   ∃ t,PSs (Xn Dv P w K mg base N qual (An st) f cdv A outer s H E).nox (Cs st) t/\t { nx:=fun _ H'=>Q .non H',rt:=Q } (Lh N vs) H):FnOk P w K mg base Dv (k+1) f fd ps sp:=by
 obtain⟨oc,od,kV,doc,pm,an,cdv,ct,osl,rfl,lk,hcd⟩:=F.ex;refine BA lk hcd S len fun A outer s H vs Q E hr hsp=>?_;obtain⟨t,h,q⟩:=hbody cdv A outer s H vs Q E hr hsp;exact⟨t,h.nox,q⟩
theorem Fun.binds {x qual:Str} {st:Stmt} {f:Addr} {fd:zCt} {ps:List Str} (F:Fun K x qual st f fd)
  (h:∀ (kV doc pm:Value) (an:Option Addr) (cdv ct:Value) (us:List Value),us.length=ps.length->bindArgs (zAV x qual (De st) (Cs st) (An st) .none kV doc pm an cdv ct) ⟨us,[]⟩=pure (ps.zip us)):Binds K fd ps []:=by
 obtain⟨oc,od,kV,doc,pm,an,cdv,ct,osl,rfl,lk,hcd⟩:=F.ex;exact .all (h kV doc pm an cdv ct)
theorem Ys {x qual:Str} {st:Stmt} {f:Addr} {oc:Value} {od an:Option Addr} {osl:Array (Option Value)} {kV doc pm cdv ct:Value} (l:K.lookup f=some ⟨oc,od,.func (zAV x qual (De st) (Cs st) (An st) .none kV doc pm an cdv ct),osl⟩)
  (c:zBu K cdv qual=true) (k:zAX K (.ref f)=true):Fun K x qual st f (zAV x qual (De st) (Cs st) (An st) .none kV doc pm an cdv ct):=⟨⟨oc,od,kV,doc,pm,an,cdv,ct,osl,rfl,l,c⟩,k⟩
end
theorem ET {A:Around} {k:Nat} (hr:Room k A):A.units+1<cLine:=zCg (Nat.add_le_add_left (by decide:1<=64) _) hr.units
theorem F8 {n:Nat} (h:n<=1000):n<sizeLine:=zCg h (by decide)
section
variable {X:Cx}
theorem pv (i:Nat) {x:Str} {pos:Pos} (hN:X.N[i]?=some x:=by rfl) (hv:GU X.env.scope x:=by first | exact Or.inl rfl | exact Or.inr (Or.inl rfl) | exact Or.inr (Or.inr rfl)) (hd:(x==("__debug__" : Str))=false:=by decide)
  (hcd:(x==("__classdict__" : Str))=false:=by decide):PE X (.Name x pos) (Fz i):=EG hN hv hd hcd
end
theorem Cg {A B:Prop} (h:B):if false=true then A else B:=by
 rw[if_neg zAi];exact h
theorem Kn {A B:Prop} (h:A):if true=true then A else B:=by
 rw[if_pos rfl];exact h
theorem GZ {c A B:Prop} [Decidable c] (h1:c->A) (h2:¬ c->B):if c then A else B:=by
 by_cases h:c
 ·rw[if_pos h]
  exact h1 h
 ·rw[if_neg h]
  exact h2 h
def Same (H H':Hp):Prop:=∀ b o,H b=some o->H' b=some o
theorem Same.refl (H:Hp):Same H H:=fun _ _ h=>h
theorem Same.trans {H H1 H2:Hp} (a:Same H H1) (b:Same H1 H2):Same H H2:=fun c o h=>b c o (a c o h)
theorem Same.free {H H':Hp} (e:Same H H') {l:Addr} (h:H' l=Option.none):H l=Option.none:=by
 cases q:H l with
 | none=>rfl
 | some o=>
  rw[e l o q] at h;cases h
theorem Same.seq {K:zAb} {H H':Hp} {a:Addr} {xs:List V} (e:Same H H') (h:SqL K H a xs):SqL K H' a xs:=by
 rcases h with (h | ⟨o,h⟩) | h
 ·exact .inl (.inl (e _ _ h))
 ·exact .inl (.inr ⟨o,e _ _ h⟩)
 ·exact .inr h
section
variable {κ:Type} [DecidableEq κ]
def Gu (kvs:List (κ×V)) (k:κ):Option V:=(kvs.find? fun kv=>decide (kv.1=k)).map (·.2)
def Nn (kvs:List (κ×V)) (k:κ) (v:V):List (κ×V):=
 if (kvs.any fun kv=>decide (kv.1=k))=true then kvs.map (fun kv=>if kv.1=k then (kv.1,v) else kv) else kvs++[(k,v)]
theorem Do {p:κ×V} {r:List (κ×V)} {k:κ} (e:p.1=k):Gu (p::r) k=some p.2:=by simp [Gu,zBR,e]
theorem Dl {p:κ×V} {r:List (κ×V)} {k:κ} (e:¬ p.1=k):Gu (p::r) k=Gu r k:=by simp [Gu,zBR,e]
theorem Li (k:κ):∀ kvs:List (κ×V),(kvs.any fun kv=>decide (kv.1=k))=(Gu kvs k).isSome
 | []=>rfl
 | p::r=>by
  rw[zBL];by_cases e:p.1=k
  ·simp only [Do e,decide_eq_true e,Bool.true_or,Option.isSome_some]
  ·rw[Dl e,decide_eq_false e,Bool.false_or]; exact Li k r
theorem Xk (k j:κ) (y:V):∀ kvs:List (κ×V),Gu (kvs.map fun kv=>if kv.1=k then (kv.1,y) else kv) j=(Gu kvs j).map fun x=>if j=k then y else x
 | []=>rfl
 | p::r=>by
  have ih:=Xk k j y r;rw[zAw];by_cases h:p.1=k
  ·rw[if_pos h]
   by_cases e:p.1=j
   ·rw[Do (p:=(p.1,y)) e,Do e,zCd,if_pos (e.symm.trans h)]
   ·rw[Dl (p:=(p.1,y)) e,Dl e,ih]
  ·rw[if_neg h]
   by_cases e:p.1=j
   ·rw[Do (p:=p) e,Do e,zCd,if_neg (fun z=>h (e.trans z))]
   ·rw[Dl (p:=p) e,Dl e,ih]
theorem Sj (k j:κ) (y:V):∀ kvs:List (κ×V),Gu kvs k=none->Gu (kvs++[(k,y)]) j=if j=k then some y else Gu kvs j
 | [],_=>by
  by_cases e:k=j
  ·rw[if_pos e.symm]; exact Do (p:=(k,y)) e
  ·rw[if_neg (fun z=>e z.symm)]; exact Dl (p:=(k,y)) e
 | p::r,hn=>by
  rw[List.cons_append];have hk:¬ p.1=k:=fun z=>by rw[Do z] at hn; cases hn
  rw[Dl hk] at hn;have ih:=Sj k j y r hn;by_cases e:p.1=j
  ·rw[Do e,Do e,if_neg (fun z=>hk (e.trans z))]
  ·rw[Dl e,Dl e,ih]
theorem U7 (kvs:List (κ×V)) (k j:κ) (y:V):Gu (Nn kvs k y) j=if j=k then some y else Gu kvs j:=by
 unfold Nn;by_cases a:(kvs.any fun kv=>decide (kv.1=k))=true
 ·rw[if_pos a,Xk]
  rw[Li] at a;by_cases e:j=k
  ·obtain⟨x,hx⟩:=Option.isSome_iff_exists.mp a
   rw[if_pos e,e,hx,zCd,if_pos rfl]
  ·rw[if_neg e]
   cases Gu kvs j with
   | none=>rfl
   | some x=>rw[zCd,if_neg e]
 ·rw[if_neg a]
  refine Sj k j y kvs ?_;rw[Li] at a;cases q:Gu kvs k with
  | none=>rfl
  | some x=>rw[q] at a; exact (a rfl).elim
theorem Jc (kvs:List (κ×V)) (k:κ) (v:V):(Nn kvs k v).length<=kvs.length+1:=by
 unfold Nn
 split
 ·rw[zAa]; lia
 ·rw[zAe,zAj,List.length_nil]; lia
theorem RelO.isSome_eq {o:Option V} {u:Option Value} (r:RelO o u):o.isSome=u.isSome:=by
 cases o with
 | none=>cases u with
  | none=>rfl
  | some _=>exact (show False from r).elim
 | some _=>cases u with
  | none=>exact (show False from r).elim
  | some _=>rfl
theorem KV.val {kvs:List (κ×V)} {vs:List (κ×Value)} (r:KV kvs vs) (k:κ):RelO (Gu kvs k) (valueAt vs k):=by
 unfold KV at r
 induction r with
 | nil=>exact True.intro
 | @cons p q ps qs h t ih=>
  obtain⟨h1,h2⟩:=h;by_cases e:p.1=k
  ·have e':q.1=k:=h1.symm.trans e
   have b:valueAt (q::qs) k=some q.2:=by simp [valueAt,zBR,e']
   rw[Do e,b]; exact h2
  ·have e':¬ q.1=k:=fun z=>e (h1.trans z)
   have b:valueAt (q::qs) k=valueAt qs k:=by simp [valueAt,zBR,e']
   rw[Dl e,b]; exact ih
theorem KV.any {kvs:List (κ×V)} {vs:List (κ×Value)} (r:KV kvs vs) (k:κ):(kvs.any fun kv=>decide (kv.1=k))=vs.any fun kv=>decide (kv.1=k):=by
 unfold KV at r
 induction r with
 | nil=>rfl
 | cons h t ih=>rw[zBL,zBL,ih,h.1]
theorem KV.repl {kvs:List (κ×V)} {vs:List (κ×Value)} (r:KV kvs vs) (k:κ) {y:V} {u:Value} (ry:RelV y u) :
  KV (kvs.map fun kv=>if kv.1=k then (kv.1,y) else kv) (vs.map fun kv=>if kv.1=k then (kv.1,u) else kv):=by
 unfold KV at r ⊢
 induction r with
 | nil=>exact .nil
 | @cons p q ps qs h t ih=>
  rw[zAw,zAw];refine .cons ?_ ih;obtain⟨h1,h2⟩:=h;by_cases e:p.1=k
  ·rw[if_pos e,if_pos (h1.symm.trans e)]; exact⟨h1,ry⟩
  ·rw[if_neg e,if_neg (fun z=>e (h1.trans z))]; exact⟨h1,h2⟩
theorem KV.put {kvs:List (κ×V)} {vs:List (κ×Value)} (r:KV kvs vs) (k:κ) {y:V} {u:Value} (ry:RelV y u):KV (Nn kvs k y) (stored vs k u):=by
 unfold Nn stored;rw[r.any k];by_cases e:(vs.any fun kv=>decide (kv.1=k))=true
 ·rw[if_pos e,if_pos e]; exact r.repl k ry
 ·rw[if_neg e,if_neg e]; exact Paired.snoc r ⟨rfl,ry⟩
theorem KV.length {kvs:List (κ×V)} {vs:List (κ×Value)} (r:KV kvs vs):kvs.length=vs.length:=Paired.length r
end
theorem N5 {P:Program} {w:World} {k:Fc} {u:Value} (r:RelV (kV k) u):(Dr P w).is k u=true:=by
 cases k with
 | inl i=>obtain⟨t,e⟩:=(show ∃ t,u=Value.int i t from r); subst e; exact Vw P w i t
 | inr x=>obtain⟨t,e⟩:=(show ∃ t,u=Value.str x t from r); subst e; exact Ws P w x t
theorem GY {a b:Fc} (e:kV a=kV b):a=b:=by
 cases a with
 | inl i=>cases b with
  | inl j=>have e':V.int i=V.int j:=e; injection e' with e'; rw[e']
  | inr y=>exact nomatch (show V.int i=V.str y from e)
 | inr x=>cases b with
  | inl j=>exact nomatch (show V.str x=V.int j from e)
  | inr y=>have e':V.str x=V.str y:=e; injection e' with e'; rw[e']
theorem Sl {P:Program} {w:World}:∀ {ks:List Fc} {us:List Value},Vals (ks.map kV) us->ItemsAre (Dr P w) ks us
 | [],_,r=>by rw[zBr] at r; cases r; exact .nil
 | k::ks,_,r=>by
  rw[zAw] at r;cases r with
  | cons h t=>exact .cons (N5 h) (Sl t)
abbrev KT (H:Hp):List (List Fc×V)->List (List Fc×Addr×Value)->Prop:=Paired fun p q=>p.1=q.1/\H q.2.1=some (.tup (p.1.map kV))/\RelV p.2 q.2.2
theorem KT.val {H:Hp} {kvs:List (List Fc×V)} {xs:List (List Fc×Addr×Value)} (r:KT H kvs xs) (k:List Fc):RelO (Gu kvs k) ((atKey xs k).map (·.2)):=by
 induction r with
 | nil=>exact True.intro
 | @cons p q ps qs h t ih=>
  obtain⟨h1,_,h2⟩:=h;by_cases e:p.1=k
  ·have e':q.1=k:=h1.symm.trans e
   have b:atKey (q::qs) k=some q.2:=by simp [atKey,zBR,e']
   rw[Do e,b]; exact h2
  ·have e':¬ q.1=k:=fun z=>e (h1.trans z)
   have b:atKey (q::qs) k=atKey qs k:=by simp [atKey,zBR,e']
   rw[Dl e,b]; exact ih
theorem KT.repl {H:Hp} {kvs:List (List Fc×V)} {xs:List (List Fc×Addr×Value)} (r:KT H kvs xs) (k:List Fc) {y:V} {u:Value} (ry:RelV y u) :
  KT H (kvs.map fun kv=>if kv.1=k then (kv.1,y) else kv) (xs.map (putAt k u)):=by
 induction r with
 | nil=>exact .nil
 | @cons p q ps qs h t ih=>
  rw[zAw,zAw];refine .cons ?_ ih;obtain⟨h1,h2,h3⟩:=h;unfold putAt;by_cases e:p.1=k
  ·rw[if_pos e,if_pos (h1.symm.trans e)]; exact⟨h1,h2,ry⟩
  ·rw[if_neg e,if_neg (fun z=>e (h1.trans z))]; exact⟨h1,h2,h3⟩
theorem KT.put {H:Hp} {kvs:List (List Fc×V)} {xs:List (List Fc×Addr×Value)} (r:KT H kvs xs) (k:List Fc) {b:Addr} {y:V} {u:Value} (hb:H b=some (.tup (k.map kV))) (ry:RelV y u) :
  KT H (Nn kvs k y) (storedH xs k b u):=by
 have e:(kvs.any fun kv=>decide (kv.1=k))=(atKey xs k).isSome:=by
  rw[Li,(r.val k).isSome_eq,Option.isSome_map]
 unfold Nn storedH;rw[e];by_cases q:(atKey xs k).isSome=true
 ·rw[if_pos q,if_pos q]; exact r.repl k ry
 ·rw[if_neg q,if_neg q]; exact Paired.snoc r ⟨rfl,hb,ry⟩
theorem KT.keeps {H H':Hp} {kvs:List (List Fc×V)} {xs:List (List Fc×Addr×Value)} (r:KT H kvs xs) (ht:∀ b ys,H b=some (.tup ys)->H' b=some (.tup ys)):KT H' kvs xs:=
 Paired.mapP r fun _ _ z=>⟨z.1,ht _ _ z.2.1,z.2.2⟩
section
variable {P:Program} {w:World} {H:Hp} {h:Heap} {a:Addr}
theorem BE {u:HO} (ok:HOk P w H h) (e:Rd H a u):ObjOk P w H h a u:=e.ok ok
theorem BD {kvs:List (Fc×V)} (ok:HOk P w H h) (e:Rd H a (.dK kvs)):kvs.length<=sizeLine/\(a==sysModules)=false/\∃ vs,KV kvs vs/\h.DictOf (Dr P w) a vs:=
 show ObjOk P w H h a (.dK kvs) from BE ok e
theorem FG {kvs:List (Fc×V)} (ok:HOk P w H h) (e:H a=some (.dK kvs)):kvs.length<=sizeLine/\(a==sysModules)=false/\∃ vs,KV kvs vs/\h.DictOf (Dr P w) a vs:=BD ok (.inl e)
theorem Zc {ks:List Fc} (ok:HOk P w H h) (e:H a=some (.tup (ks.map kV))):(tupleKind (Dr P w)).is h ks a:=by
 obtain⟨_,its,r,o,h1,h2,n,h3⟩:=(show ObjOk P w H h a (.tup (ks.map kV)) from ok a _ e);exact⟨o,its.toArray,n,h1,h2,h3,by simpa using Sl r⟩
theorem BG {kvs:List (List Fc×V)} (ok:HOk P w H h) (e:Rd H a (.dT kvs)):kvs.length<=sizeLine/\(a==sysModules)=false /\
  ∃ xs,KT H kvs xs/\h.DictOfH (tupleKind (Dr P w)) a xs:=by
 obtain⟨z,y,xs,r,o,es,ep,h1,h2,h3,h4,h5⟩:=(show ObjOk P w H h a (.dT kvs) from BE ok e);refine⟨z,y,xs,r,o,es,ep,h1,h2,h3,h4,fun x hx=>?_,h5⟩;have all:∀ {l:List (List Fc×V)} {m:List (List Fc×Addr×Value)},KT H l m->∀ x∈m,(tupleKind (Dr P w)).is h x.1 x.2.1:=by
  intro l m q
  induction q with
  | nil=>intro x hx; exact nomatch hx
  | @cons p q ps qs hq t ih=>
   intro x hx;rcases zAq.mp hx with e | hx
   ·subst e
    exact Zc ok (by rw[<- hq.1]; exact hq.2.1)
   ·exact ih x hx
 exact all r x hx
theorem FV {kvs:List (List Fc×V)} (ok:HOk P w H h) (e:H a=some (.dT kvs)):kvs.length<=sizeLine/\(a==sysModules)=false /\
  ∃ xs,KT H kvs xs/\h.DictOfH (tupleKind (Dr P w)) a xs:=BG ok (.inl e)
end
def DGet (H:Hp) (a:Addr) (y:V) (r:Option V):Prop:=
 (∃ kvs k,Rd H a (.dK kvs)/\y=kV k/\r=Gu kvs k)\/∃ kvs k b,Rd H a (.dT kvs)/\y = .ref b/\H b=some (.tup (k.map kV))/\r=Gu kvs k
def DPut (H:Hp) (a:Addr) (y v:V) (H':Hp):Prop:=
 (∃ kvs k,H a=some (.dK kvs)/\y=kV k/\kvs.length<sizeLine/\H'=upd H a (.dK (Nn kvs k v))) \/
 ∃ kvs k b,H a=some (.dT kvs)/\y = .ref b/\H b=some (.tup (k.map kV))/\kvs.length<sizeLine/\H'=upd H a (.dT (Nn kvs k v))
theorem DGet.k {H:Hp} {a:Addr} {kvs:List (Fc×V)} {k:Fc} (e:H a=some (.dK kvs)):DGet H a (kV k) (Gu kvs k):=.inl ⟨kvs,k,.inl e,rfl,rfl⟩
theorem DPut.k {H:Hp} {a:Addr} {kvs:List (Fc×V)} {k:Fc} {v:V} (e:H a=some (.dK kvs)) (hl:kvs.length<sizeLine):DPut H a (kV k) v (upd H a (.dK (Nn kvs k v))):=.inl ⟨kvs,k,e,rfl,hl,rfl⟩
section
variable {X:Cx} {pins:List (Addr×Obj)} {σ:St} {H:Hp} {s:Shared} {a:Addr} {y v:V} {u r:Value} {o:Option V} {A:Around} {E:Value->Shared->Prop}
theorem Inv.big (I:Inv X pins σ H s):sysModules<s.heap.objs.size:=by
 have h:zCu<s.heap.objs.size:=(I.mod.glob.keeps I.bk).lt;exact Nat.lt_trans (by decide) h
theorem GJ {Q:Value->Shared->Prop} (hu:A.units+1<cLine) (I:Inv X pins σ H s) (g:DGet H a y o) (ry:RelV y u) (h:∀ s',Inv X pins σ H s'->Q (.bool o.isSome) s') :
  wpAny (model X.prog X.w) A (compareOp .In u (.ref a)) Q E s:=by
 rcases g with ⟨kvs,k,e,ey,l⟩ | ⟨kvs,k,b,e,ey,eb,l⟩
 ·subst ey
  obtain⟨z,hd,vs,rel,dd⟩:=BD I.hok e;refine wpAny_in_of (N5 ry) hd dd.mapOf ?_;rw[<- (rel.val k).isSome_eq,<- l];exact h _ (I.tok _)
 ·subst ey
  cases (show u=Value.ref b from ry)
  obtain⟨z,hd,xs,rel,dd⟩:=BG I.hok e;refine wpAny_in_heap (tupleKind_room_in1 hu) (Zc I.hok eb) hd dd ?_;have q:=(rel.val k).isSome_eq;rw[Option.isSome_map] at q;rw[<- q,<- l];exact h _ (I.tok _)
theorem Zz {h':Heap} {t':Nat} {ob:HO} (I:Inv X pins σ H s) (mu:FN (H a)) (hs:zBm a s.heap h') (he:∃ q,h'.get? a=some q) (new:ObjOk X.prog X.w (upd H a ob) h' a ob) :
  Inv X pins σ (upd H a ob) { s with heap:=h',toks:=t' }:=
 I.write (x:=a) (e:=a) mu (.inl rfl) (fun b q hb z=>(hs.2 b hb).trans z) he new
theorem DC {P:Program} {w:World} {H':Hp} {h':Heap} {kvs:List (Fc×V)} {vs:List (Fc×Value)} (z:kvs.length<=sizeLine) (hd:(a==sysModules)=false) (rel:KV kvs vs) (dd:h'.DictOf (Dr P w) a vs) :
  ObjOk P w H' h' a (.dK kvs):=⟨z,hd,vs,rel,dd⟩
theorem J3 {H':Hp} {Q:Unit->Shared->Prop} (hu:A.units+1<cLine) (I:Inv X pins σ H s) (g:DPut H a y v H') (ry:RelV y u) (rv:RelV v r) (h:∀ s',Inv X pins σ H' s'->Q () s') :
  wpAny (model X.prog X.w) A (setItem (.ref a) u r) Q E s:=by
 rcases g with ⟨kvs,k,e,ey,l,eH⟩ | ⟨kvs,k,b,e,ey,eb,l,eH⟩
 ·subst ey eH
  obtain⟨z,hd,vs,rel,dd⟩:=FG I.hok e;have hz:vs.length<=sizeLine:=by rw[<- rel.length]; exact z
  have hl:(Nn kvs k v).length<=sizeLine:=by have:=Jc kvs k v; lia
  refine wpAny_setItem_pairs (hsz:=hz) (N5 ry) dd fun h' dd' hs=>h _ ?_;have he:∃ q,h'.get? a=some q:=let ⟨q,_,_,hq,_⟩:=dd'; ⟨q,hq⟩
  exact Zz I (by rw[e]; exact True.intro) hs he (DC hl hd (rel.put k rv) dd')
 ·subst ey eH
  cases (show u=Value.ref b from ry)
  obtain⟨z,hd,xs,rel,dd⟩:=FV I.hok e;have hz:xs.length<=sizeLine:=by rw[<- Paired.length rel]; exact z
  have hl:(Nn kvs k v).length<=sizeLine:=by have:=Jc kvs k v; lia
  refine wpAny_setItem_heap (hsz:=hz) (tupleKind_room_in1 hu) (Zc I.hok eb) dd fun h' dd' hs=>h _ ?_;obtain⟨q,es,ep,hq,h2,h3,h4,_,h5⟩:=dd';refine Zz I (by rw[e]; exact True.intro) hs ⟨q,hq⟩ ⟨hl,hd,_,(rel.put k eb rv).keeps fun c ys ec=>?_,q,es,ep,hq,h2,h3,h4,h5⟩;rw[Ar (Wp ec e (fun z=>nomatch z))];exact ec
end
section
variable {X:Cx} {pins:List (Addr×Obj)} {σ:St} {H:Hp} {s:Shared} {a:Addr} {kvs:List (Fc×V)} {k:Fc} {u:Value} {A:Around} {E:Value->Shared->Prop}
end
def HA (ty td:TE):TE:=fun σ H Q=>ty σ H fun y H1=>td σ H1 fun x H2=>∃ a o,x = .ref a/\DGet H2 a y o/\Q (.bl o.isSome) H2
def FX (td ty tv:TE):TS:=fun D σ H=>tv σ H fun v H1=>td σ H1 fun x H2=>ty σ H2 fun y H3=>∃ a H4,x = .ref a/\DPut H3 a y v H4/\D.nx σ H4
section
variable {X:Cx} {o i e value:Expr} {pos pos' tpos:Pos} {td ty tv:TE}
theorem DK (hu:X.A.units+1<cLine) (hi:PE X i ty) (ho:PE X o td):PC X .In i o (HA ty td):=by
 intro pins s σ H Q I h;refine Cn (hi pins s σ H _ I h) fun iv s1 ⟨y,H1,I1,ry,q1⟩=>Cn (ho pins s1 σ H1 _ I1 q1) fun u s2 ⟨x,H2,I2,rx,a,ov,ex,g,q2⟩=>?_;subst ex;obtain rfl:u=Value.ref a:=rx;exact GJ hu I2 g ry fun s3 I3=>⟨.bl ov.isSome,H2,I3,rfl,q2⟩
theorem AR (hu:X.A.units+1<cLine) (ho:PE X o td) (hi:PE X i ty) (hv:PE X value tv) (hs:swapsWith value (some (.Subscript o i pos')) pos.line X.env=pure false) :
  PS X (.Assign [.Subscript o i pos'] value pos) (FX td ty tv):=by
 intro pins s σ H D I h;refine wpAny_Assign_Subscript (Cn (hv pins s σ H _ I h) fun r s1 ⟨v,H1,I1,rv,q1⟩=>Cn (ho pins s1 σ H1 _ I1 q1) fun u s2 ⟨x,H2,I2,rx,q2⟩=>Cn (hi pins s2 σ H2 _ I2 q2) fun iv s3 ⟨y,H3,I3,ry,a,H4,ex,g,q3⟩=>?_) hs;subst ex;obtain rfl:u=Value.ref a:=rx;exact J3 hu I3 g ry rv fun s4 I4=>⟨σ,H4,I4,q3⟩
end
theorem N8 {P:Program} {w:World} {H:Hp} (h:Heap) (hb:sysModules<h.objs.size):ObjOk P w H (h.push { cls:=.type "dict",data:=.dict #[] }) h.objs.size (.dK []):=
 ⟨zAC _,beq_eq_false_iff_ne.mpr (Ne.symm (zAs hb)),[],.nil,Heap.DictOf.new h⟩
def DA:TE:=fun _ H Q=>∀ p,H p=none->Q (.ref p) (upd H p (.dK []))
section
variable {X:Cx} {pos:Pos}
theorem W4:PE X (.Dict [] [] pos) DA:=fun pins s σ H Q I h=>
 wpAny_Dict_empty ⟨.ref s.heap.objs.size,_,I.laid (a:=s.heap.objs.size) (o:=.dK []) (t':=s.toks) (fun _ _ q=>zAc _ q) (zAg _) (N8 s.heap I.big),rfl,h _ (I.hok.fresh (zAg _))⟩
end
section
variable {X:Cx} {pins:List (Addr×Obj)} {σ:St} {H:Hp} {s:Shared} {a:Addr} {y d:V} {u r:Value} {o:Option V} {A:Around} {E:Value->Shared->Prop}
end
section
variable {X:Cx} {o e f:Expr} {apos cpos:Pos} {td ty tx:TE}
end
section
variable {X:Cx} {pins:List (Addr×Obj)} {σ:St} {H:Hp} {s:Shared} {a:Addr} {kvs:List (Fc×V)} {A:Around} {E:Value->Shared->Prop}
end
section
variable {X:Cx} {pins:List (Addr×Obj)} {σ:St} {H:Hp} {s:Shared} {a:Addr} {y:V} {u:Value} {A:Around} {E:Value->Shared->Prop}
end
section
variable {X:Cx}
end
section
variable {κ:Type} [DecidableEq κ]
end
def C6 (cells:List (Str×Addr)):List (Str×NameKind)->List (Str×Addr)->List (Str×Addr)
 | [],cs=>cs
 | (n,k)::r,cs=>C6 cells r (if k==NameKind.free then (match cells.lookup n with | some a=>(n,a)::cs | none=>cs) else cs)
theorem Ve {env:Env}:∀ (names:List (Str×NameKind)) (cs:List (Str×Addr)),(∀ y∈names,y.2 = .free->∃ c,env.cells.lookup y.1=some c) ->
  (forIn names cs fun (x:Str×NameKind) (r:List (Str×Addr))=>if (x.2==NameKind.free)=true then (do let a <- cellOf env x.1; pure (ForInStep.yield ((x.1,a)::r))) else (pure (ForInStep.yield r):Sem (ForInStep (List (Str×Addr)))))
   = (pure (C6 env.cells names cs):Sem (List (Str×Addr)))
 | [],cs,_=>rfl
 | (n,k)::r,cs,h=>by
  have ih:=Ve (env:=env) r;rw[List.forIn_cons];unfold C6;cases hk:(k==NameKind.free) with
  | false=>
   simp only [zBA,if_false];show (forIn r cs _:Sem _)=_;exact ih cs fun y hy=>h y (zAm _ hy)
  | true=>
   obtain⟨c,hc⟩:=h (n,k) zAo (by simpa using hk);have hc':env.cells.lookup n=some c:=hc;have e:cellOf env n=pure c:=by unfold cellOf; rw[hc']
   simp only [if_true,e,hc'];show (forIn r ((n,c)::cs) _:Sem _)=_;exact ih _ fun y hy=>h y (zAm _ hy)
theorem V0 {scope:Scope} {env:Env} (h:∀ y∈scope.names,y.2 = .free->∃ c,env.cells.lookup y.1=some c):closureFor scope env=pure (C6 env.cells scope.names []):=by
 unfold closureFor;have q:=Ve (env:=env) scope.names [] h;refine Eq.trans ?_ (congrArg (fun z:Sem (List (Str×Addr))=>z >>= fun cs=>pure cs) q);rfl
set_option tactic.hygienic true in
theorem A9 {cells:List (Str×Addr)}:∀ (names:List (Str×NameKind)) (cs:List (Str×Addr)),(∀ p∈cs,cells.lookup p.1=some p.2)->∀ p∈C6 cells names cs,cells.lookup p.1=some p.2
 | [],cs,h,p,hp=>h p hp
 | (n,k)::r,cs,h,p,hp=>by
  unfold C6 at hp;refine A9 r _ (fun q hq=>?_) p hp
  split at hq
  ·split at hq
   ·rename_i a e
    rcases zAq.mp hq with rfl | hq
    ·exact e
    ·exact h q hq
   ·exact h q hq
  ·exact h q hq
theorem Ia {cells:List (Str×Addr)} {names:List (Str×NameKind)} {x:Str} {c:Addr} (e:(C6 cells names []).lookup x=some c):cells.lookup x=some c:=
 A9 names [] (fun _ z=>nomatch z) (x,c) (PySem.mem_of_lookup e)
theorem Ss {cells:List (Str×Addr)}:∀ (names:List (Str×NameKind)) (cs:List (Str×Addr)) (p:Str×Addr),p∈cs->p∈C6 cells names cs
 | [],cs,p,hp=>hp
 | (n,k)::r,cs,p,hp=>by
  unfold C6;refine Ss r _ p ?_
  split
  ·split
   ·exact zAm _ hp
   ·exact hp
  ·exact hp
theorem Ue {cells:List (Str×Addr)} {x:Str} {c:Addr} (hc:cells.lookup x=some c):∀ (names:List (Str×NameKind)) (cs:List (Str×Addr)),(x,NameKind.free)∈names->(x,c)∈C6 cells names cs
 | [],_,h=>nomatch h
 | (n,k)::r,cs,h=>by
  unfold C6;rcases zAq.mp h with e | h
  ·cases e
   refine Ss r _ _ ?_;rw[hc];simp
  ·exact Ue hc r _ h
theorem Ee {x:Str} {c:Addr}:∀ {l:List (Str×Addr)},(x,c)∈l->∃ d,l.lookup x=some d
 | [],h=>nomatch h
 | (y,d)::r,h=>by
  rw[zBH];cases e:(x==y) with
  | true=>exact⟨d,rfl⟩
  | false=>
   rcases zAq.mp h with z | z
   ·cases z
    simp at e
   ·exact Ee z
theorem Ho {env:Env}:∀ {names:List (Str×NameKind)} {x:Str} {k:NameKind},
  (names.map fun (n,k)=>if (k==NameKind.free&&env.scope.kind == .function&&env.kindOf n==some .cell) then (n,NameKind.cell) else (n,k)).lookup x=some k ->
   names.lookup x=some k\/(k = .cell/\names.lookup x=some .free)
 | [],_,_,h=>by simp at h
 | (n,k0)::r,x,k,h=>by
  have ih:=@Ho env r x k;rw[zAw] at h;rw[zBH];by_cases c:(k0==NameKind.free&&env.scope.kind == .function&&env.kindOf n==some .cell)=true
  ·have h':=h
   simp only [c,if_true] at h';rw[zBH] at h';cases e:(x==n) with
   | true=>
    rw[e] at h';have c1:k0 = .free:=by
     simp only [zBe] at c
     simpa using c.1.1
    refine .inr ⟨(Option.some.inj h').symm,?_⟩;rw[c1]
   | false=>
    rw[e] at h';exact ih h'
  ·have h':=h
   simp only [c,zBA,if_false] at h';rw[zBH] at h';cases e:(x==n) with
   | true=>
    rw[e] at h';exact .inl h'
   | false=>
    rw[e] at h';exact ih h'
theorem Lj {env:Env}:∀ {names:List (Str×NameKind)} {x:Str},names.lookup x=some .free ->
  (names.map fun (n,k)=>if (k==NameKind.free&&env.scope.kind == .function&&env.kindOf n==some .cell) then (n,NameKind.cell) else (n,k)).lookup x=some .cell \/
  (names.map fun (n,k)=>if (k==NameKind.free&&env.scope.kind == .function&&env.kindOf n==some .cell) then (n,NameKind.cell) else (n,k)).lookup x=some .free
 | [],_,h=>by simp at h
 | (n,k0)::r,x,h=>by
  have ih:=@Lj env r x;rw[zAw];rw[zBH] at h;by_cases c:(k0==NameKind.free&&env.scope.kind == .function&&env.kindOf n==some .cell)=true
  ·simp only [c,if_true,zBH]
   cases e:(x==n) with
   | true=>exact .inl rfl
   | false=>
    rw[e] at h;exact ih h
  ·simp only [c,zBA,if_false,zBH]
   cases e:(x==n) with
   | true=>
    rw[e] at h;exact .inr h
   | false=>
    rw[e] at h;exact ih h
def N9 (sc scope:Scope):Bool:=
 scope.kind == .function&&scope.names.all fun y=>y.2 != .cell&&(y.2 != .local||scope.names.lookup y.1==some .local)&&(y.2 != .free||(sc.names.lookup y.1==some .cell||sc.names.lookup y.1==some .free))
structure CompScope (sc scope:Scope):Prop where
 kind:scope.kind = .function
 cell:∀ y∈scope.names,y.2 ≠ .cell
 own:∀ y∈scope.names,y.2 = .local->scope.names.lookup y.1=some .local
 free:∀ y∈scope.names,y.2 = .free->sc.names.lookup y.1=some .cell\/sc.names.lookup y.1=some .free
theorem CompScope.of {sc scope:Scope} (h:N9 sc scope=true):CompScope sc scope:=by
 unfold N9 at h;rw[zBe,zBI] at h;obtain⟨h1,h2⟩:=h;have h3:∀ y∈scope.names,(y.2 ≠ .cell/\(y.2 ≠ .local\/scope.names.lookup y.1=some .local))/\(y.2 ≠ .free\/(sc.names.lookup y.1=some .cell\/sc.names.lookup y.1=some .free)):=fun y hy=>by
  have q:=h2 y hy
  simpa [zBe,Bool.or_eq_true] using q
 refine⟨by simpa using h1,fun y hy=>(h3 y hy).1.1,fun y hy e=>?_,fun y hy e=>?_⟩
 ·exact (h3 y hy).1.2.resolve_left fun n=>n e
 ·exact (h3 y hy).2.resolve_left fun n=>n e
def Vb (X:Cx) (NC:List Str) (scope:Scope) (s3:Shared) (H3:Hp) (fp:List Addr):Cx:=
 { X with N:=NC,s₀ := s3,H₀ := H3,env:=compEnvC scope (C6 X.env.cells scope.names []) s3.heap.objs.size X.env,outer:=X.stack,ex:=fp,fn:=fun _=>false,pn:=[],xe:=fun _ _=>False }
def E6 (own:Nat) (ix:List Nat) (σ:St):St:=zAD own none++ix.map fun j=>(σ[j]?).getD none
def Caps (X:Cx) (scope:Scope):List Str->List Nat->Prop
 | [],[]=>True
 | x::cs,j::js=>(X.N[j]?=some x/\(X.env.kindOf x=some .cell\/X.env.kindOf x=some .free)/\scope.names.lookup x=some .free)/\Caps X scope cs js
 | _,_=>False
theorem Caps.len {X:Cx} {scope:Scope}:∀ {cs:List Str} {js:List Nat},Caps X scope cs js->cs.length=js.length
 | [],[],_=>rfl
 | _::_,_::_,h=>by rw[zAj,zAj,Caps.len h.2]
 | [],_::_,h=>h.elim
 | _::_,[],h=>h.elim
theorem Caps.at {X:Cx} {scope:Scope}:∀ {cs:List Str} {js:List Nat} {i:Nat} {x:Str},Caps X scope cs js->cs[i]?=some x ->
  ∃ j,js[i]?=some j/\X.N[j]?=some x/\(X.env.kindOf x=some .cell\/X.env.kindOf x=some .free)/\scope.names.lookup x=some .free
 | [],[],_,_,_,e=>by simp at e
 | x::_,j::_,0,_,h,e=>by simp at e; subst e; exact⟨j,rfl,h.1⟩
 | _::_,_::_,i+1,_,h,e=>by
  obtain⟨j,e1,r⟩:=Caps.at (i:=i) h.2 (by simpa using e);exact⟨j,by simpa using e1,r⟩
 | [],_::_,_,_,h,_=>h.elim
 | _::_,[],_,_,h,_=>h.elim
def FA:TT:=fun _ H Q=>Q true H
def FM (Y:Cx) (ifs:List Expr) (t:TT):Prop:=
 ∀ (pins:List (Addr×Obj)) (s:Shared) (σ:St) (H:Hp) (Q:Bool->Hp->Prop),Inv Y pins σ H s->t σ H Q ->
  wpAny (model Y.prog Y.w) Y.A (forIn ifs true fun c r=>if r=true then do let ok <- isTrue c Y.env (eval c Y.env); pure (ForInStep.yield ok) else pure (ForInStep.yield r)) (TP Y pins σ Q) Y.xe s
theorem Cr {Y:Cx}:FM Y [] FA:=fun _ _ _ H _ I h=>wpAny_tests_nil ⟨H,I,h⟩
theorem Go {Y:Cx} {c:Expr} {t:TT} (h:PT Y c t):FM Y [c] t:=fun pins s σ H Q I q=>wpAny_tests_one (h pins s σ H Q I q)
def Sw (g:TG) (tc:TT) (te:TE) (own:Nat) (ix:List Nat) (σ:St) (J:It) (p:Addr) (H1:Hp) (QQ:Hp->Prop):Prop:=
 ∃ W:Nat->Nat->List V->St->Hp->Prop,(∃ m,W 0 m [] (E6 own ix σ) (upd H1 p (.lst [])))/\∀ i m ys σ2 H2,W i m ys σ2 H2->H2 p=some (.lst ys) /\
  ((J.stop i H2/\QQ H2)\/(J.go i H2/\ys.length<sizeLine/\∀ x H3,J.yld i H2 x H3->∃ N:List V->St->Hp->Prop,(∀ ys' σ' H',N ys' σ' H'->∃ m',m'<m/\W (i+1) m' ys' σ' H') /\
   g x σ2 H3 fun σ4 H4=>tc σ4 H4 fun b H5=>if b=true then te σ4 H5 fun y H6=>H6 p=some (.lst ys)/\N (ys++[y]) σ4 (upd H6 p (.lst (ys++[y]))) else N ys σ4 H5))
def BP (wi:TI) (g:TG) (tc:TT) (te:TE) (own:Nat) (ix:List Nat):TE:=fun σ H Q=>wi σ H fun J H1=>∀ p,H1 p=none->Sw g tc te own ix σ J p H1 (Q (.ref p))
theorem G4 {prog:Program} {w:World} {A:Around} {R:Result->Shared->Prop} {s:Shared} {elt target iter:Expr} {ifs:List Expr} {scope:Scope} {pos:Pos} {it acc:Value} {env:Env} (I:Nat->Shared->Prop)
  (turn:∀ n s,I n s->wpAny (model prog w) A (pyNext it) (fun r s₁ => (r=none/\R (.ok .next) s₁)\/∃ v,r=some v /\
   wpAny (model prog w) A (letOwnedTupleGo target it v) (fun _ s₂ => wpAny (model prog w) A (assign target env v) (fun _ s₃ =>
    wpAny (model prog w) A (forIn ifs true fun c r=>if r=true then do let ok <- isTrue c env (eval c env); pure (ForInStep.yield ok) else pure (ForInStep.yield r)) (fun ok s₄ =>
     (ok=true/\wpAny (model prog w) A (eval elt env) (fun x s₅ => wpAny (model prog w) A (call (.builtin "list.append") [acc,x]) (fun _ s₆ => ∃ m,m<n/\I m s₆) (fun _ _=>False) s₅) (fun _ _=>False) s₄) \/
     (ok=false/\∃ m,m<n/\I m s₄)) (fun _ _=>False) s₃) (fun _ _=>False) s₂) (fun _ _=>False) s₁) (fun _ _=>False) s)
  (n:Nat) (h:I n s):codeAny (model prog w) A (.compLoop (.ListComp elt [⟨target,iter,ifs,0⟩] scope pos) 0 it acc env) R s:=by
 refine codeAny_loop rfl I (fun n s hI=>?_) n h;show wpAny _ A ((compTurn (.ListComp elt [⟨target,iter,ifs,0⟩] scope pos) 0 it acc env).onRaise (fun x=>do noteFrame x env; theTreesLotGoes x)) _ _ s;refine wpAny_noted ?_;rw[compTurn_list];have no:∀ (e:Value) (s':Shared),False->notedBy (model prog w) A env (fun e s'=>R (.error e) s') e s':=fun _ _ f=>f.elim;refine zCp (wpAny_standAt (zCp (wpAny_mono (turn n s hI) (fun r s₁ h₁ => ?_) no)));rcases h₁ with ⟨rfl,h₁⟩ | ⟨v,rfl,h₁⟩
 ·exact zCq h₁
 refine zCp (wpAny_mono h₁ (fun _ s₂ h₂ => ?_) no);refine zCp (wpAny_mono h₂ (fun _ s₃ h₃ => ?_) no);refine zCp (wpAny_mono h₃ (fun ok s₄ h₄ => ?_) no);rcases h₄ with ⟨rfl,h₄⟩ | ⟨rfl,h₄⟩
 ·refine zCp (zCp (wpAny_mono h₄ (fun x s₅ h₅ => ?_) no))
  exact zCp (wpAny_mono h₅ (fun _ s₆ h₆ => zCq (zCq ⟨rfl,h₆⟩)) no)
 ·exact zCq ⟨rfl,h₄⟩
section
variable {X:Cx} {pins:List (Addr×Obj)} {σ:St} {H H':Hp} {s s':Shared}
theorem Xh {NC own cs:List Str} {ix:List Nat} {scope:Scope} {fp:List Addr} {h4:Heap} {t4:Nat} (I:Inv X pins σ H s) (S:CompScope X.env.scope scope) (hN:NC=own++cs) (hc:Caps X scope cs ix)
  (hf:∀ b∈fp,Jx X pins H b) (hl:∀ b∈fp,b<s.heap.objs.size) (hns:h4.Ns s.heap.objs.size fun _=>none) (hk:∀ b o,s.heap.get? b=some o->h4.get? b=some o) :
  Inv (Vb X NC scope s H fp) [] (E6 own.length ix σ) H { s with heap:=h4,toks:=t4 }:=by
 have cs_has:∀ y∈scope.names,y.2 = .free->∃ c,X.env.cells.lookup y.1=some c:=fun y hy e=>I.ok.has y.1 (S.free y hy e);have len:=hc.len;refine⟨⟨I.ok.mod,S.kind,I.ok.glob,I.ok.blt,zAg _,fun x y c e1 e2=>I.ok.inj x y c (Ia e1) (Ia e2),fun x hx=>?_,fun _ _ z=>(nomatch z),I.ok.hd,I.ok.frames,.inl rfl,fun b hb=>⟨zAs (hl b hb),fun x c e=>(hf b hb).2.2.2.2.1 x c (Ia e)⟩,
   I.bs,zAE I.ok.bsz I.sz,fun b o e hb=>?_,fun b hb z=>?_,I.stack,I.stkFree⟩,rfl,I.bare,Un.kept hk,⟨_,hns,fun i x v e1 e2 e3=>?_⟩,fun x c e=>?_,I.hok.fresh (zAg _),fun x c e=>I.freeC x c (Ia e),fun p hp=>?_,I.hok.kept hk,?_⟩
 ·-- a cell for each caught name
  have hx':(relabel scope X.env).names.lookup x=some .cell\/(relabel scope X.env).names.lookup x=some .free:=hx;have q:scope.names.lookup x=some .free:=by
   rcases hx' with h | h
   ·rcases Ho h with h | ⟨_,h⟩
    ·exact absurd rfl (S.cell _ (PySem.mem_of_lookup h))
    ·exact h
   ·rcases Ho h with h | ⟨z,_⟩
    ·exact h
    ·cases z
  obtain⟨c,hc'⟩:=cs_has (x,.free) (PySem.mem_of_lookup q) rfl;exact Ee (Ue hc' scope.names [] (PySem.mem_of_lookup q))
 ·rcases (hf b hb).2.2.2.1 with z | z
  ·exact I.ok.noex b o e z
  ·exact absurd (zAt (zAr e) (zAE I.ok.bsz z)) (zBx _)
 ·rcases zAq.mp (I.stkSub b z) with z | z
  ·exact (hf b hb).2.1 z
  ·exact (hf b hb).2.2.1 z
 ·-- the caught names' values
  have e1':(own++cs)[i]?=some x:=hN▸e1;have hi:own.length<=i:=by
   by_cases hi:own.length<=i
   ·exact hi
   ·unfold E6 at e2
    rw[zBa (by rw[zAS]; omega),List.getElem?_replicate,if_pos (by omega)] at e2;cases e2
  rw[zAQ hi] at e1';obtain⟨j,ej,en,kx,fx⟩:=hc.at e1';have e2':(σ[j]?).getD none=some v:=by
   unfold E6 at e2;rw[zAQ (by rw[zAS]; omega),zAS,zAl,ej] at e2;exact Option.some.inj e2
  have e2'':σ[j]?=some (some v):=by
   cases z:σ[j]? with
   | none=>rw[z] at e2'; cases e2'
   | some o=>rw[z] at e2'; exact congrArg some e2'
  obtain⟨m,_,hl'⟩:=I.loc;obtain⟨u,ru,l⟩:=hl' j x v en e2'' (kx.elim (fun z=>.inr (.inl z)) fun z=>.inr (.inr z));refine⟨u,ru,.inr ⟨Lj fx,?_⟩⟩;rcases l with ⟨k,_⟩ | ⟨_,c,e,z⟩
  ·rcases kx with k' | k' <;> rw[k] at k' <;> cases k'
  ·obtain⟨d,hd⟩:=Ee (Ue e scope.names [] (PySem.mem_of_lookup fx))
   have e':=Ia hd;rw[e] at e';cases e';obtain⟨o,ho,dd⟩:=z;exact⟨c,hd,o,hk c o ho,dd⟩
 ·obtain⟨v,o,ho,dd⟩:=I.cell x c (Ia e)
  exact⟨v,o,hk c o ho,dd⟩
 ·exact absurd (show p∈([]:List (Addr×Obj)) from hp) (by simp)
 ·show (E6 own.length ix σ).length=NC.length
  rw[hN];unfold E6;rw[zAe,zAe,zAS,zAa,len]
theorem Ta {NC:List Str} {scope:Scope} {fp:List Addr} {σ':St} {h':Heap} (I:Inv X pins σ H s) (hf:∀ b∈fp,Jx X pins H b) (J:Inv (Vb X NC scope s H fp) [] σ' H' s') (hs:zBm s.heap.objs.size s'.heap h'):Inv X pins σ H' { s' with heap:=h' }:=by
 obtain⟨hh,g,d,t,os⟩:=s';have hos:os=s.os:=J.os;subst hos;have nC:H' s.heap.objs.size=none:=J.free;have un:Un (E4 X.stack) fp H H' s.heap hh:=J.base;have out:∀ b o,s.heap.get? b=some o->b≠s.heap.objs.size:=fun b o e=>zAs (zAr e);have un':Un (E4 X.stack) fp H H' s.heap h':=⟨fun b o e n hb hx=>(hs.2 b (out b o e)).trans (un.keep b o e n hb hx),fun b o e n hb hx=>let ⟨sl,q⟩:=un.slot b o e n hb hx; ⟨sl,(hs.2 b (out b o e)).trans q⟩,un.free,
  fun b o e hx=>let ⟨o',q⟩:=un.there b o e hx; ⟨o',(hs.2 b (out b o e)).trans q⟩,un.tups,un.frzs,un.tbls⟩
 have hok:HOk X.prog X.w H' h':=fun b u e=>by
  refine (J.hok b u e).stay (fun c v hc q=>(hs.2 c ?_).trans q) (fun _ q=>q) fun _ _ q=>q;rintro rfl;rcases hc with rfl | hc
  ·rw[nC] at e; cases e
  ·rw[nC] at hc; cases hc
 have q:=Inv.call (s:=s) (h':=h') (g':=g) (d':=d) (t':=t) (ch:=fp) I un' hok J.bare fun b hb=>⟨(hf b hb).2.2.2.1,(hf b hb).2.1,(hf b hb).2.2.2.2.1,(hf b hb).2.2.2.2.2⟩;exact q
end
theorem So {X:Cx} {elt tg iter:Expr} {ifs:List Expr} {scope:Scope} {pos:Pos} {NC own cs:List Str} {ix:List Nat} {g:TG} {tc:TT} {te:TE} (hc:X.calm=true) (S:CompScope X.env.scope scope) (hN:NC=own++cs) (hcap:Caps X scope cs ix)
  (hg:∀ s3 H3 fp,PG (Vb X NC scope s3 H3 fp) tg g) (ht:∀ s3 H3 fp,FM (Vb X NC scope s3 H3 fp) ifs tc) (he:∀ s3 H3 fp,PE (Vb X NC scope s3 H3 fp) elt te)
  {pins:List (Addr×Obj)} {σ:St} {H2:Hp} {s2:Shared} {it:Addr} {fp:List Addr} {tn:Nat->Heap->Prop} {J:It} (I2:Inv X pins σ H2 s2) (T:Um X.prog X.w X.K tg J fp it tn) (st2:tn 0 s2.heap) (f2:∀ b∈fp,Jx X pins H2 b) {QQ:Addr->Hp->Prop} {E:Value->Shared->Prop}
  {RR:Value->Addr->Result->Shared->Prop}
  (h2:∀ p,H2 p=none->Sw g tc te own.length ix σ J p H2 (QQ p))
  (fin:∀ s3 H3 σ5 H5 s6,Inv X pins σ H3 s3->(∀ b∈fp,Jx X pins H3 b)->Inv (Vb X NC scope s3 H3 fp) [] σ5 H5 s6->QQ s2.heap.objs.size H5->RR (.ref s2.heap.objs.size) s3.heap.objs.size (.ok .next) s6) :
  wpAny (model X.prog X.w) X.A (newList []) (fun acc s3=>wpAny (model X.prog X.w) X.A (newFunctionEnv scope X.env.globals (C6 X.env.cells scope.names []) [] X.env.qual none .none (some X.env)) (fun cenv s4=>
   codeAny (model X.prog X.w) X.A (.compStart (.ListComp elt [⟨tg,iter,ifs,0⟩] scope pos) 0 (.ref it) acc { cenv with scope:=relabel scope X.env }) (RR acc cenv.locals) s4) E s3) E s2:=by
 have lt2:∀ b∈fp,b<s2.heap.objs.size:=fun b hb=>let ⟨_,e,_⟩:=T.obj _ _ st2 b hb; zAr e
 obtain⟨W,⟨m0,w0⟩,turn⟩:=h2 _ I2.fresh;refine wpAny_newObj_type ?_;have I3:Inv X pins σ (upd H2 s2.heap.objs.size (.lst [])) { s2 with heap:=s2.heap.push { cls:=.type "list",dict:=none,data:=.seq ([]:List Value).toArray } }:=I2.lnew (t':=s2.toks) .nil (zAC _);have f3:∀ b∈fp,Jx X pins (upd H2 s2.heap.objs.size (.lst [])) b:=fun b hb=>⟨by rw[Ar (zAs (lt2 b hb))]; exact (f2 b hb).1,(f2 b hb).2⟩;have st3:tn 0 (s2.heap.push { cls:=.type "list",dict:=none,data:=.seq ([]:List Value).toArray }):=T.keep _ _ _ st2 fun b hb o e=>zAc _ e;have lt3:∀ b∈fp,b<(s2.heap.push { cls:=.type "list",dict:=none,data:=.seq ([]:List Value).toArray }).objs.size:=fun b hb=>by rw[zBt]; exact zAU (lt2 b hb)
 refine wpAny_newFunctionEnv S.cell (fun _ z=>nomatch z) (fun h4 hns hsb=>?_) S.kind
 dsimp only at hns hsb ⊢
 have hk4:∀ b o,(s2.heap.push { cls:=.type "list",dict:=none,data:=.seq ([]:List Value).toArray }).get? b=some o->h4.get? b=some o:=fun b o e=>
  hsb.extBut b o (zAs (zAr e)) (zAc _ e)
 have J0:=Xh (t4:=s2.toks+([]:List (Str×Value)).length) I3 S hN hcap f3 lt3 hns hk4;have st4:tn 0 h4:=T.keep _ _ _ st3 fun b hb o e=>hk4 b o e;have fB:∀ {H':Hp},(∀ b∈fp,H' b=none)->∀ b∈fp,Jx (Vb X NC scope { s2 with heap:=s2.heap.push { cls:=.type "list",dict:=none,data:=.seq ([]:List Value).toArray } } (upd H2 s2.heap.objs.size (.lst [])) fp) [] H' b:=fun hn b hb=>by
  refine⟨hn b hb,zAs (lt3 b hb),fun z=>?_,.inl hb,fun x c e=>(f3 b hb).2.2.2.2.1 x c (Ia e),fun p hp=>absurd (show p∈([]:List (Addr×Obj)) from hp) (by simp)⟩;rcases zAq.mp (I3.stkSub b z) with z | z
  ·exact (f3 b hb).2.1 z
  ·exact (f3 b hb).2.2.1 z
 have loop:∀ s4:Shared,s4={ s2 with heap:=h4,toks:=s2.toks+([]:List (Str×Value)).length } ->
   codeAny (model X.prog X.w) X.A (.compLoop (.ListComp elt [⟨tg,iter,ifs,0⟩] scope pos) 0 (.ref it) (.ref s2.heap.objs.size) (compEnvC scope (C6 X.env.cells scope.names []) (s2.heap.push { cls:=.type "list",dict:=none,data:=.seq ([]:List Value).toArray }).objs.size X.env))
    (RR (.ref s2.heap.objs.size) (s2.heap.push { cls:=.type "list",dict:=none,data:=.seq ([]:List Value).toArray }).objs.size) s4:=by
  rintro s4 rfl;refine G4 (fun n s'=>∃ i ys σ' H',Inv (Vb X NC scope { s2 with heap:=s2.heap.push { cls:=.type "list",dict:=none,data:=.seq ([]:List Value).toArray } } (upd H2 s2.heap.objs.size (.lst [])) fp) [] σ' H' s'/\tn i s'.heap/\(∀ b∈fp,H' b=none)/\W i n ys σ' H') ?_ m0
   ⟨0,[],_,_,J0,st4,fun b hb=>(f3 b hb).1,w0⟩
  rintro n s5 ⟨i,ys,σ5,H5,J5,st5,fr5,w5⟩;obtain⟨hp5,alt⟩:=turn i n ys σ5 H5 w5;rcases alt with ⟨stop,qn⟩ | ⟨go,hz,step⟩
  ·refine Cn (T.done (Vb X NC scope _ _ fp) rfl rfl rfl hc i [] s5 σ5 H5 _ J5 (fB fr5) st5 stop) fun r s6 ⟨hr,J6⟩=>.inl ⟨hr,?_⟩
   exact fin _ _ _ _ _ I3 f3 J6 qn
  ·refine Cn (T.item (Vb X NC scope _ _ fp) rfl rfl rfl hc i [] s5 σ5 H5 _ J5 (fB fr5) st5 go) fun r s6 ⟨u,hr,h6⟩=>.inr ⟨u,hr,?_⟩
   refine Cn h6 fun _ s7 ⟨x,H7,J7,r7,y7,st7,fr7⟩=>?_;have J7':=J7.pinned (fB fr7) (T.obj _ _ st7);obtain⟨N,hN',q7⟩:=step x H7 y7;refine Cn (hg _ _ fp _ s7 σ5 H7 x u _ J7' r7 q7) fun _ s8 ⟨σ8,H8,J8,q8⟩=>?_;refine Cn (ht _ _ fp _ s8 σ8 H8 _ J8 q8) fun ok s9 ⟨H9,J9,q9⟩=>?_;have again:∀ {σa:St} {Ha:Hp} {sa:Shared} {ya:List V} {ma:Nat},Inv (Vb X NC scope { s2 with heap:=s2.heap.push { cls:=.type "list",dict:=none,data:=.seq ([]:List Value).toArray } } (upd H2 s2.heap.objs.size (.lst [])) fp) ([]++Qr fp s7.heap) σa Ha sa->ma<n->W (i+1) ma ya σa Ha ->
     ∃ m,m<n/\∃ i ys σ' H',Inv (Vb X NC scope { s2 with heap:=s2.heap.push { cls:=.type "list",dict:=none,data:=.seq ([]:List Value).toArray } } (upd H2 s2.heap.objs.size (.lst [])) fp) [] σ' H' sa/\tn i sa.heap/\(∀ b∈fp,H' b=none)/\W i m ys σ' H':=fun {σa Ha sa ya ma} Ja hm wa=>by
    refine⟨ma,hm,i+1,ya,σa,Ha,Ja.unpinned,T.keep _ _ _ st7 fun b hb o e=>(Ja.pin (b,o) (zAI _ (zAI _ (Hy hb e)))).1,fun b hb=>?_,wa⟩;obtain⟨o,e,d⟩:=T.obj _ _ st7 b hb;exact (Ja.pin (b,o) (zAI _ (zAI _ (Hy hb e)))).2.1
   cases ok with
   | false=>
    obtain⟨m',hm,w'⟩:=hN' _ _ _ (show N ys σ8 H9 from q9);exact .inr ⟨rfl,again J9 hm w'⟩
   | true=>
    refine .inl ⟨rfl,Cn (he _ _ fp _ s9 σ8 H9 _ J9 q9) fun yv s10 ⟨y,H10,J10,r10,hp10,n10⟩=>?_⟩;obtain⟨m',hm,w'⟩:=hN' _ _ _ n10;refine Cn (Fx _ s10 σ8 H10 (.ref s2.heap.objs.size) [y] (.ref s2.heap.objs.size) [yv] (fun _ Hz=>Hz=upd H10 s2.heap.objs.size (.lst (ys++[y]))) J10 rfl (.cons r10 .nil) ⟨_,ys,y,rfl,rfl,hp10,hz,rfl⟩) fun _ s11 ⟨_,H11,J11,_,e11⟩=>?_;subst e11;exact again J11 hm w'
 exact codeAny_compStart_list (loop _ rfl) (T.self X.A 0 _ _ _ st4 (loop _ rfl))
theorem Da {X:Cx} {elt tg iter:Expr} {ifs:List Expr} {scope:Scope} {pos:Pos} {NC own cs:List Str} {ix:List Nat} {wi:TI} {g:TG} {tc:TT} {te:TE} (hc:X.calm=true) (S:CompScope X.env.scope scope) (hN:NC=own++cs) (hcap:Caps X scope cs ix)
  (hi:PI X tg iter wi) (hg:∀ s3 H3 fp,PG (Vb X NC scope s3 H3 fp) tg g) (ht:∀ s3 H3 fp,FM (Vb X NC scope s3 H3 fp) ifs tc) (he:∀ s3 H3 fp,PE (Vb X NC scope s3 H3 fp) elt te)
  (hs:∀ x,foldedSetIterable iter X.env x=pure x:=by intro _; rfl):PE X (.ListComp elt [⟨tg,iter,ifs,0⟩] scope pos) (BP wi g tc te own.length ix):=by
 intro pins s σ H Q I h;rw[eval_ListComp];have has:∀ y∈scope.names,y.2 = .free->∃ c,X.env.cells.lookup y.1=some c:=fun y hy e=>I.ok.has y.1 (S.free y hy e);refine wpAny_comprehension_free (use:=none) rfl hs (V0 has) S.kind S.own (Cn (hi pins s σ H _ I h) fun v s1 h1=>Cn h1 fun itv s2 h2=>?_);obtain⟨it,fp,tn,J,H2,e,I2,T,st2,f2,h2⟩:=h2;subst e;refine So hc S hN hcap hg ht he I2 T st2 f2 (QQ:=fun p=>Q (.ref p)) (RR:=fun acc C=>compPost (model X.prog X.w) X.A X.xe none (EP X pins σ Q) acc C) h2 fun s3 H3 σ5 H5 s6 I3 f3 J6 qn=>?_;obtain⟨m6,hn6,_⟩:=J6.loc;exact⟨m6,hn6,fun h7 hs7=>⟨.ref s2.heap.objs.size,H5,Ta I3 f3 J6 hs7,rfl,qn⟩⟩
theorem Fp {X:Cx} {elt tg iter:Expr} {ifs:List Expr} {scope:Scope} {pos py spos:Pos} {NC own cs:List Str} {ix:List Nat} {wi:TI} {g:TG} {tc:TT} {te:TE} {y:Str} {j:Nat} (hnd:X.N.Nodup) (hj:X.N[j]?=some y) (hy:X.env.scope.names.lookup y=some .local) (hc:X.calm=true) (S:CompScope X.env.scope scope) (hN:NC=own++cs) (hcap:Caps X scope cs ix)
  (hi:PI X tg iter wi) (hg:∀ s3 H3 fp,PG (Vb X NC scope s3 H3 fp) tg g) (ht:∀ s3 H3 fp,FM (Vb X NC scope s3 H3 fp) ifs tc) (he:∀ s3 H3 fp,PE (Vb X NC scope s3 H3 fp) elt te)
  (hsw:swapsWith (.ListComp elt [⟨tg,iter,ifs,0⟩] scope pos) (some (.Name y py)) spos.line X.env=pure true:=by rfl) (hs:∀ x,foldedSetIterable iter X.env x=pure x:=by intro _; rfl) :
  PS X (.Assign [.Name y py] (.ListComp elt [⟨tg,iter,ifs,0⟩] scope pos) spos) (Ya (BP wi g tc te own.length ix) (Dw j)):=by
 intro pins s σ H D I h;rw[exec_Assign_Name_used _ _ _ _ hsw];refine zCp (wpAny_standAt (zCp ?_));show wpAny _ X.A (comprehension (.ListComp elt [⟨tg,iter,ifs,0⟩] scope pos) scope X.env _ (newList []) false (eval iter X.env) (some (assign (.Name y py) X.env)) >>= fun _=>_) _ _ s;have has:∀ y∈scope.names,y.2 = .free->∃ c,X.env.cells.lookup y.1=some c:=fun y hy e=>I.ok.has y.1 (S.free y hy e);refine zCp (Cn (wpAny_comprehension_free (use:=some (assign (.Name y py) X.env)) (Q:=fun _ s'=>SP X pins D .next s') rfl hs (V0 has) S.kind S.own (Cn (hi pins s σ H _ I h) fun v s1 h1=>Cn h1 fun itv s2 h2=>?_)) fun _ s' hq=>zCq (zCq hq));obtain⟨it,fp,tn,J,H2,e,I2,T,st2,f2,h2⟩:=h2;subst e;refine So hc S hN hcap hg ht he I2 T st2 f2 (QQ:=fun p H'=>D.nx (σ.set j (some (.ref p))) H') (RR:=fun acc C=>compPost (model X.prog X.w) X.A X.xe (some (assign (.Name y py) X.env)) (fun _ s'=>SP X pins D .next s') acc C) h2 fun s3 H3 σ5 H5 s6 I3 f3 J6 qn=>?_;obtain⟨m6,hn6,_⟩:=J6.loc;have I6:=Ta I3 f3 J6 (zBm.refl ..);show wpAny _ X.A (assign (.Name y py) X.env (.ref s2.heap.objs.size)) _ _ s6;refine wpAny_assign_Name (Su (v:=.ref s2.heap.objs.size) I6 hnd hj (.inl hy) rfl (fun s7 I7 ⟨a,hs7,ha⟩=>?_) (.inr hy));have hCa:s3.heap.objs.size≠a:=by
  rcases ha with ha | ha
  ·rw[ha]; exact Ne.symm (zAs I3.lt)
  ·obtain⟨v,q⟩:=I3.cell y a ha
   exact Ne.symm (zAs q.lt)
 refine⟨m6,hn6.sameBut hs7 hCa,fun h8 hs8=>?_⟩;have nC:H5 s3.heap.objs.size=none:=J6.free;have I8:Inv X pins (σ.set j (some (.ref s2.heap.objs.size))) H5 { s7 with heap:=h8,toks:=s7.toks }:=by
  refine I7.turned (it:=s3.heap.objs.size) (fun b o hb e=>(hs8.2 b hb).trans e) nC (Ne.symm (zAs I3.lt)) (.inr I3.sz) (fun x c e z=>?_) (fun p hp z=>?_)
  ·obtain⟨v,q⟩:=I3.cell x c e
   exact absurd (z▸q.lt) (zBx _)
  ·exact absurd (z▸zAr (I3.pin p hp).1) (zBx _)
 exact⟨_,H5,I8,qn⟩
theorem Bt {X:Cx}:Kb X (.builtin "isinstance") (fun xs H Q=>∃ x c cv t b,xs=[x,c]/\(∀ u,RelV c u->u=cv)/\Iw X.K H x t/\zBG X.K t cv=some b/\Q (.bl b) H):=by
 intro pins s σ H xs us Q I r h;obtain⟨x,c,cv,t,b,rfl,hc,ty,e,q⟩:=h;obtain⟨u,z,rfl,rx,rc⟩:=BJ r;cases hc z rc;exact G9 I rx ty e fun tk=>⟨.bl b,H,I.tok tk,rfl,q⟩
theorem Fm {n:String}:∀ u,RelV (.ty n) u->u = .type n:=fun _ h=>h
theorem Qu {X:Cx} (hc:X.calm=true):Kb X (.builtin "sum") (fun xs H Q=>∃ p,∃ ns:List Int,xs=[.ref p]/\SqL X.K H p (ns.map V.int)/\Q (.int ns.sum) H):=by
 intro pins s σ H xs us Q I r h;obtain⟨p,ns,rfl,hq,q⟩:=h;obtain⟨u,rfl,rx⟩:=Lk r;cases rx;obtain⟨its,rv,pl,hz⟩:=I.list hq;have hi:IntsAre its ns:=Xu rv;obtain⟨ys,ey⟩:=hi.allInts.items;have hl:s.heap.IsList p (intItems ys):=ey▸pl.isList;have es:preSum (numAt ys) ys.size=ns.sum:=by
  have e1:=hi.numsOf;have e2:numsOf (intItems ys).toList=ns:=by rw[<- ey]; exact e1
  rw[nums_intItems] at e2;rw[preSum_eq,List.take_of_length_le (by simp),e2]
 refine sum_intListG (I.ok.hd hc) hl fun h' tk t' hk=>?_;exact⟨.int ns.sum,H,I.kept hk,⟨t',by rw[es]⟩,q⟩
def Np:List V->List V->Bool
 | [],[]=>true
 | x::xs,y::ys=>Sy x y&&Np xs ys
 | _,_=>false
theorem Tx:∀ {xs ys:List V},xs.length≠ys.length->Np xs ys=false
 | [],[],h=>absurd rfl h
 | [],_::_,_=>rfl
 | _::_,[],_=>rfl
 | x::xs,y::ys,h=>by
  unfold Np;rw[Tx (xs:=xs) (ys:=ys) fun e=>h (by rw[zAj,zAj,e]),zCj]
theorem Ts:∀ {xs ys:List V},xs.length=ys.length->∀ e:Nat->Bool,(∀ j x y,xs[j]?=some x->ys[j]?=some y->e j=Sy x y)->(zAM xs.length).all e=Np xs ys
 | [],[],_,_,_=>rfl
 | [],_::_,h,_,_=>by simp at h
 | _::_,[],h,_,_=>by simp at h
 | x::xs,y::ys,h,e,he=>by
  have ih:=Ts (xs:=xs) (ys:=ys) (by simpa using h) (fun j=>e (j+1)) fun j a b ha hb=>he (j+1) a b (by simpa using ha) (by simpa using hb);unfold Np;rw[zAj,List.range_succ_eq_map,zBQ,List.all_map,he 0 x y rfl rfl,<- ih];rfl
def Zr (its js:List Value) (xs ys:List V) (j:Nat):Bool:=match xs[j]?,ys[j]? with
 | some x,some y=>Sy x y
 | _,_=>true
theorem Wf {X:Cx} {pins:List (Addr×Obj)} {s:Shared} {σ:St} {H:Hp} {A:Around} {xs ys:List V} {its js:List Value} (r1:Vals xs its) (r2:Vals ys js) (f1:xs.all Ci=true) (f2:ys.all Ci=true) (hl:xs.length=ys.length) :
  ∀ j (h1:j<its.toArray.size) (h2:j<js.toArray.size),SeqAt.EqAt A s its.toArray[j] js.toArray[j] (Zr its js xs ys j):=fun j h1 h2=>by
 have l1:=r1.length;have l2:=r2.length;rw[zAd] at h1 h2;have e1:xs[j]?=some xs[j]:=zAf (by omega);have e2:ys[j]?=some ys[j]:=zAf (by omega);obtain⟨u,hu,ru⟩:=r1.get e1;obtain⟨v,hv,rv⟩:=r2.get e2;have eu:its.toArray[j]=u:=by rw[zBU]; exact (zAp.mp hu).2
 have ev:js.toArray[j]=v:=by rw[zBU]; exact (zAp.mp hv).2
 rw[eu,ev];unfold Zr;rw[e1,e2];exact Zi ru rv (zBI.mp f1 _ (zBg _)) (zBI.mp f2 _ (zBg _))
def FR (K:zAb) (neg:Bool):R2:=fun x y H Q=>∃ a b xs ys,x = .ref a/\y = .ref b/\SqL K H a xs/\SqL K H b ys/\xs.all Ci=true/\ys.all Ci=true/\Q (.bl (if neg then !Np xs ys else Np xs ys)) H
theorem GW {X:Cx} (hu:X.A.units<cLine):Ir X (compareOp .Eq) (FR X.K false):=by
 intro pins s σ H x y v u Q I rx ry h;obtain⟨a,b,xs,ys,rfl,rfl,h1,h2,f1,f2,q⟩:=h;cases rx;cases ry;obtain⟨its,r1,p1,z1⟩:=I.list h1;obtain⟨js,r2,p2,z2⟩:=I.list h2;have l1:=r1.length;have l2:=r2.length;by_cases hl:xs.length=ys.length
 ·refine SeqAt.eq_listAt p1.isList p2.isList (by rw[zAd,zAd]; lia) hu (Wf (X:=X) (pins:=pins) (σ:=σ) (H:=H) r1 r2 f1 f2 hl) ?_
  refine⟨.bl (Np xs ys),H,I,?_,q⟩;show Value.bool _=Value.bool _;rw[zAd,<- l1,Ts hl];intro j x y e1 e2;unfold Zr;rw[e1,e2]
 ·refine SeqAt.eq_list_lengthsAt p1.isList p2.isList (by simp only [zAd,bne_iff_ne,ne_eq]; lia) hu ?_
  exact⟨.bl (Np xs ys),H,I,by rw[Tx hl]; rfl,q⟩
theorem N4 {X:Cx} (hu:X.A.units<cLine):Ir X (compareOp .NotEq) (FR X.K true):=by
 intro pins s σ H x y v u Q I rx ry h;obtain⟨a,b,xs,ys,rfl,rfl,h1,h2,f1,f2,q⟩:=h;cases rx;cases ry;obtain⟨its,r1,p1,z1⟩:=I.list h1;obtain⟨js,r2,p2,z2⟩:=I.list h2;have l1:=r1.length;have l2:=r2.length;by_cases hl:xs.length=ys.length
 ·refine (SeqAt.RcNeAt.lists p1.isList p2.isList (by rw[zAd,zAd]; lia) hu (Wf (X:=X) (pins:=pins) (σ:=σ) (H:=H) r1 r2 f1 f2 hl):SeqAt.RcNeAt X.A s _ _ _) X.prog X.w _ _ ?_
  refine⟨.bl (!Np xs ys),H,I,?_,q⟩;show Value.bool _=Value.bool _;rw[zAd,<- l1,Ts hl];intro j x y e1 e2;unfold Zr;rw[e1,e2]
 ·refine (SeqAt.RcNeAt.lists_lengths p1.isList p2.isList (by simp only [zAd,bne_iff_ne,ne_eq]; lia) hu:SeqAt.RcNeAt X.A s _ _ _) X.prog X.w _ _ ?_
  exact⟨.bl (!Np xs ys),H,I,by rw[Tx hl]; rfl,q⟩
abbrev Dq (ix:List Nat) (σ:St):St:=ix.map fun j=>(σ[j]?).getD none
theorem Eo {lo:Int} {n:Nat} {tc:TT} {te:TE} {σ:St} {ix:List Nat} {QQ:Hp->Prop} {H1:Hp} {p:Addr} (Pv:Nat->List V->Hp->Prop) (h0:Pv 0 [] (upd H1 p (.lst [])))
  (hp:∀ i ys H,i<=n->Pv i ys H->H p=some (.lst ys)/\ys.length<=i) (hn:n<=sizeLine)
  (hs:∀ i ys H,i<n->Pv i ys H->tc (some (.int (lo+i))::Dq ix σ) H fun b H5=>if b=true then te (some (.int (lo+i))::Dq ix σ) H5 fun y H6=>H6 p=some (.lst ys) /\
   (some (.int (lo+i))::Dq ix σ)=(some (.int (lo+i))::Dq ix σ)/\Pv (i+1) (ys++[y]) (upd H6 p (.lst (ys++[y]))) else (some (.int (lo+i))::Dq ix σ)=(some (.int (lo+i))::Dq ix σ)/\Pv (i+1) ys H5)
  (hd:∀ ys H,Pv n ys H->QQ H) :
  Sw (Dw 0) tc te 1 ix σ (AV lo n) p H1 QQ:=by
 refine⟨fun i m ys σ2 H2=>m=n-i/\i<=n/\(∃ o,σ2=o::Dq ix σ)/\Pv i ys H2,⟨n,by simp,zAC _,⟨none,rfl⟩,h0⟩,?_⟩;rintro i m ys σ2 H2 ⟨rfl,hi,⟨o,rfl⟩,pv⟩;obtain⟨hp2,hl2⟩:=hp i ys H2 hi pv;refine⟨hp2,?_⟩;by_cases hlt:i<n
 ·refine .inr ⟨hlt,by lia,fun x H3 y=>?_⟩
  obtain⟨e,y⟩:=y;subst e y;exact⟨fun ys' σ' H'=>σ'=(some (.int (lo+i))::Dq ix σ)/\Pv (i+1) ys' H',fun ys' σ' H' ⟨e,q⟩=>⟨n-(i+1),by lia,rfl,hlt,⟨_,e⟩,q⟩,hs i ys _ hlt pv⟩
 ·have e:i=n:=by lia
  subst e;exact .inl ⟨zAg _,hd ys H2 pv⟩
theorem Cc {K:zAb} {a:Addr} {xs:List V} {tc:TT} {te:TE} {σ:St} {ix:List Nat} {QQ:Hp->Prop} {H1:Hp} {p:Addr} (Pv:Nat->List V->Hp->Prop) (h0:Pv 0 [] (upd H1 p (.lst [])))
  (hp:∀ i ys H,i<=xs.length->Pv i ys H->H p=some (.lst ys)/\ys.length<=i/\SqL K H a xs) (hn:xs.length<=sizeLine)
  (hs:∀ i x ys H,xs[i]?=some x->Pv i ys H->tc (some x::Dq ix σ) H fun b H5=>if b=true then te (some x::Dq ix σ) H5 fun y H6=>H6 p=some (.lst ys) /\
   (some x::Dq ix σ)=(some x::Dq ix σ)/\Pv (i+1) (ys++[y]) (upd H6 p (.lst (ys++[y]))) else (some x::Dq ix σ)=(some x::Dq ix σ)/\Pv (i+1) ys H5)
  (hd:∀ ys H,Pv xs.length ys H->QQ H) :
  Sw (Dw 0) tc te 1 ix σ (CW K a) p H1 QQ:=by
 refine⟨fun i m ys σ2 H2=>m=xs.length-i/\i<=xs.length/\(∃ o,σ2=o::Dq ix σ)/\Pv i ys H2,⟨xs.length,by simp,zAC _,⟨none,rfl⟩,h0⟩,?_⟩;rintro i m ys σ2 H2 ⟨rfl,hi,⟨o,rfl⟩,pv⟩;obtain⟨hp2,hl2,hq2⟩:=hp i ys H2 hi pv;refine⟨hp2,?_⟩;by_cases hlt:i<xs.length
 ·refine .inr ⟨⟨xs,xs[i],hq2,by simp [hlt]⟩,by lia,fun x H3 y=>?_⟩
  obtain⟨e,y⟩:=y;subst e;exact⟨fun ys' σ' H'=>σ'=(some x::Dq ix σ)/\Pv (i+1) ys' H',fun ys' σ' H' ⟨e,q⟩=>⟨xs.length-(i+1),by lia,rfl,hlt,⟨_,e⟩,q⟩,hs i x ys _ (y xs hq2) pv⟩
 ·have e:i=xs.length:=by lia
  subst e;exact .inl ⟨⟨xs,hq2,zAg _⟩,hd ys H2 pv⟩
structure Ct (P:Program) (w:World) (K:zAb) (mg:Str->Option Value) (base:Heap) (k:Nat) (x:Str) (ps:List Str) (sp:Sp):Prop where
 ex:∃ f fd,FnOk P w K mg base Dv k f fd ps sp/\Binds K fd ps []/\zAX K (.ref f)=true/\mg x=some (.ref f)
theorem Am {X:Cx} {k:Nat} {x:Str} {ps:List Str} {sp:Sp} {e:Expr} {es:List Expr} {p pos:Pos} {t:TA} (C:Ct X.prog X.w X.K X.mg X.base k x ps sp) (hr:Room k X.A) (hg:Gl X x) (ha:PA X (e::es) t)
  (hdb:(x==("__debug__" : Str))=false:=by decide) (he:starEach (e::es) X.env=(false,eval e X.env)::starEach es X.env:=by rfl) (hpl:(backTo pos (starEach es X.env)).any (·.1)=false:=by rfl) :
  PE X (.Call (.Name x p) (e::es) [] pos) (Xi sp [] E0 t):=by
 obtain⟨f,fd,F,b,kp,hm⟩:=C.ex;exact AH F hr hg hm kp b .nil V3 ha hdb he hpl
structure Def (K:zAb) (mg:Str->Option Value) (x:Str) (st:Stmt) (ps:List Str):Prop where
 ex:∃ f fd,Fun K x x st f fd/\Binds K fd ps []/\mg x=some (.ref f)
theorem Def.cal {P:Program} {w:World} {K:zAb} {mg:Str->Option Value} {base:Heap} {k:Nat} {x:Str} {st:Stmt} {ps:List Str} {sp:Sp} (D:Def K mg x st ps) (h:∀ f fd,Fun K x x st f fd->FnOk P w K mg base Dv k f fd ps sp):Ct P w K mg base k x ps sp:=by
 obtain⟨f,fd,F,b,m⟩:=D.ex;exact⟨f,fd,h f fd F,b,F.kp,m⟩
def Wo (mg:Str->Option Value) (x:Str) (i:Int):Prop:=∃ t,mg x=some (.int i t)
def Z0 (mg:Str->Option Value) (x:Str) (z:Str):Prop:=∃ t,mg x=some (.str z t)
theorem Gp {X:Cx} {x:Str} {i:Int} {pos:Pos} (h:Wo X.mg x i) (hg:Gl X x) (hd:(x==("__debug__" : Str))=false:=by decide):PE X (.Name x pos) (tC (.int i)):=by
 obtain⟨t,e⟩:=h;exact D5 hg e ⟨t,rfl⟩ hd
theorem Fo {X:Cx} {x:Str} {i:Str} {pos:Pos} (h:Z0 X.mg x i) (hg:Gl X x) (hd:(x==("__debug__" : Str))=false:=by decide):PE X (.Name x pos) (tC (.str i)):=by
 obtain⟨t,e⟩:=h;exact D5 hg e ⟨t,rfl⟩ hd
theorem Fn {X:Cx} {x:Str} {pos:Pos} (T:String) (hg:Gl X x) (hm:X.mg x=none) (hv:zCs x=some (.type T)) (hn:x ≠ "__name__" := by decide) (hd:(x==("__debug__" : Str))=false:=by decide):PE X (.Name x pos) (tC (.ty T)):=
 Z9 (v:=.ty T) hg hm hv rfl hn hd
theorem Jb {X:Cx} {K:zAb} (h:X.K=K):EK X (EC K):=h▸Bu
theorem Ag {H:Hp} {p:Addr} (h:H p=none) (o:HO):Same H (upd H p o):=fun b u q=>by rw[Ar (At q h)]; exact q
theorem Ce {n:Nat} (h:n<=1000):n<=sizeLine:=zBD (F8 h)
theorem BX {ns:List Int} {i:Nat} {n:Int} (h:ns[i]?=some n):Nt (ns.map V.int) (i:Int)=some (.int n):=Fq (by rw[zAl,h]; rfl)
theorem AI {ns:List Int} {i:Int} (h0:0<=i) (h:i<ns.length):Nt (ns.map V.int) i=some (.int (ns.getD i.toNat 0)):=by
 have e:((i.toNat:Nat):Int)=i:=by lia
 have q:=BX (ns:=ns) (i:=i.toNat) (n:=ns.getD i.toNat 0) (by rw[zAf (by lia),zAR,zAf (by lia)]; rfl);rw[e] at q;exact q
theorem Ep (ns:List Int):(ns.map V.int).all Ci=true:=by
 rw[zBI];intro x hx;obtain⟨n,_,rfl⟩:=zAA.mp hx;rfl
theorem Xo {k:Nat} {A:Around} (hr:Room k A):A.units<cLine:=hr.units0
example:zCs "int" = some (.type "int"):=by rfl
def FO (K:zAb) (a:Addr):It:=
 ⟨fun i H=>∃ xs x,SqL K H a xs/\xs[i]?=some x,
   fun i H x H'=>∃ t y,x = .ref t/\H t=none/\(∀ xs,SqL K H a xs->xs[i]?=some y)/\H'=upd H t (.tup [.int i,y]),
   fun i H=>∃ xs,SqL K H a xs/\xs.length<=i⟩
theorem L4 {P:Program} {w:World} {K:zAb} {elts:List Expr} {k:Nat} {tp:Pos} (a e it:Addr) (hei:e≠it) :
  Um P w K (.Tuple elts k tp) (FO K a) [e,it] e (fun i h=>(∃ old,IsEnum h e it i old)/\h.IsListIter it a i) where
 mem:=by simp
 obj:=fun i h st b hb=>by
  obtain⟨⟨old,he⟩,o,ho,c,d⟩:=st;rcases zAq.mp hb with rfl | hb
  ·exact⟨_,he,fun v z=>by
    have z':Data.fields _=Data.cell v:=z;cases z'⟩
  ·have eb:b=it:=by simpa using hb
   subst eb;exact⟨o,ho,fun v z=>by rw[d] at z; cases z⟩
 keep:=fun i h h' st kk=>by
  obtain⟨⟨old,he⟩,hit⟩:=st;exact⟨⟨old,kk e (by simp) _ he⟩,hit.at fun o x=>kk it (by simp) o x⟩
 item:=by
  intro X hP hw hK hc i pins s σ H E I hf st hg;subst hP hw hK;obtain⟨⟨old,he⟩,hit⟩:=st;obtain⟨xs,x,hq,hx⟩:=hg;obtain⟨its,rv,p,hz⟩:=I.list hq;obtain⟨u,hu,ru⟩:=rv.get hx;obtain⟨e0,e1,e2,e3,e4,e5⟩:=hf e (by simp);obtain⟨i0,i1,i2,i3,i4,i5⟩:=hf it (by simp);refine wpAny_pyNext_enum_item he hit p.isList (x:=u) (by simpa using hu) hei fun h1 ho hit1 hT hsz hk=>⟨_,rfl,?_⟩;refine wpAny_letOwnedTupleGo_enum ho fun h2 he2 hs2=>?_;have hs2':zBm e h1 h2:=hs2;have helt:e<s.heap.objs.size:=zAr he;have hnT:H s.heap.objs.size=none:=I.hok.fresh (zAg _);have up:∀ b o,b≠e->b≠it->s.heap.get? b=some o->h2.get? b=some o:=fun b o h3 h4 q=>(hs2'.2 b h3).trans (hk b o h3 h4 q);have nch:∀ b,b∉[e,it]->b≠e/\b≠it:=fun b hb=>⟨fun z=>hb (by simp [z]),fun z=>hb (by simp [z])⟩;have ntr:∀ b o,H b=some o->b≠e/\b≠it:=fun b o q=>⟨fun z=>by (rw[z,e0] at q; cases q),fun z=>by (rw[z,i0] at q; cases q)⟩;have htup:h2.get? s.heap.objs.size=some { cls:=.type "tuple",data:=.seq #[.int i s.toks,u] }:=(hs2'.2 _ (zAG helt)).trans hT;have I1:Inv X pins σ (upd H s.heap.objs.size (.tup [.int i,x])) { s with heap:=h2,gens:=s.gens,drawn:=s.drawn,toks:=s.toks+1 }:=by
   refine I.step (ch:=[e,it]) (fun b hb=>?_) (fun b o _ _ hb q _=>up b o (nch b hb).1 (nch b hb).2 q) (fun b o _ _ hb q _=>⟨o.slots,up b o (nch b hb).1 (nch b hb).2 q⟩) (fun b o _ q n=>by rw[Ar (zAs (zAr q))]; exact n)
    (fun b o hb q=>⟨o,up b o (nch b hb).1 (nch b hb).2 q⟩) (fun b xs q=>by rw[Ar (At q hnT)]; exact q) (fun b o u q=>by rw[Ar (At q hnT)]; exact q) (fun b ps q=>⟨#[],by rw[Ar (At q hnT),q]; simp⟩)
    (fun m hm=>?_) (fun b o q=>?_) I.bare
   ·rcases zAq.mp hb with rfl | hb
    ·exact⟨e3,e1,e4,e5⟩
    ·have eb:b=it:=by simpa using hb
     subst eb;exact⟨i3,i1,i4,i5⟩
   ·obtain⟨o,es,ep,hoL,r⟩:=hm
    exact⟨o,es,ep,up _ o (Ne.symm e1) (Ne.symm i1) hoL,r⟩
   ·by_cases hb:b=s.heap.objs.size
    ·subst hb
     rw[Ab] at q;cases q;exact⟨Ce (by show 2<=1000; decide),[.int i s.toks,u],.cons ⟨_,rfl⟩ (.cons ru .nil),_,htup,rfl,_,rfl⟩
    ·rw[Ar hb] at q
     refine (I.hok b o q).stay (fun c v hc2 q2=>?_) (fun c q2=>by rw[Ar (At q2 hnT)]; exact q2) (fun c xs q2=>by rw[Ar (At q2 hnT)]; exact q2);rcases hc2 with rfl | hc2
     ·exact up _ v (ntr _ _ q).1 (ntr _ _ q).2 q2
     ·exact up _ v (ntr _ _ hc2).1 (ntr _ _ hc2).2 q2
  refine⟨.ref s.heap.objs.size,_,I1,rfl,⟨_,x,rfl,hnT,fun ys hy=>by rw[I.list_inj hy hq]; exact hx,rfl⟩,⟨⟨u,?_⟩,?_⟩,fun b hb=>?_⟩
  ·have ei:((i+1:Nat):Int)=(i:Int)+1:=by lia
   rw[ei];exact he2
  ·exact hit1.at fun o q=>(hs2'.2 it hei.symm).trans q
  ·have hbl:b<s.heap.objs.size:=by
    rcases zAq.mp hb with rfl | hb
    ·exact helt
    ·have eb:b=it:=by simpa using hb
     subst eb;obtain⟨o,q,_⟩:=hit;exact zAr q
   rw[Ar (zAs hbl)];exact (hf b hb).1
 done:=by
  intro X hP hw hK hc i pins s σ H E I hf st hg;subst hP hw hK;obtain⟨⟨old,he⟩,hit⟩:=st;obtain⟨xs,hq,hx⟩:=hg;obtain⟨its,rv,p,hz⟩:=I.list hq;obtain⟨i0,i1,i2,i3,i4,i5⟩:=hf it (by simp);have hl:=rv.length;exact wpAny_pyNext_enum_end (I.ok.hd hc) he hit p.isList (by simp; lia) fun h' eb=>⟨rfl,I.turned (t':=s.toks) (fun b o hb q=>eb b o hb q) i0 i1 i3 i4 i5⟩
 self:=fun _ _ _ _ _ st h=>by
  obtain⟨⟨old,he⟩,_⟩:=st;exact wpAny_pyIter_enum he h
def FL (K:zAb) (ta:TA):TI:=fun σ H R=>ta σ H fun vs H1=>∃ a,vs=[.ref a]/\(∃ xs,SqL K H1 a xs)/\R (FO K a) H1
theorem AQ {X:Cx} {a:Expr} {ta:TA} {p pos tp:Pos} {elts:List Expr} {k:Nat} (hg:Gl X "enumerate") (hm:X.mg "enumerate" = none) (ha:PA X [a] ta) (hs:starEach [a] X.env=[(false,eval a X.env)]:=by rfl) :
  PI X (.Tuple elts k tp) (.Call (.Name "enumerate" p) [a] [] pos) (FL X.K ta):=by
 intro pins s σ H R I h;refine Call_ (Dy I hg hm (show zCs "enumerate" = some (.type "enumerate") from rfl) (PyProof.Rows.callWith_type1 (Cn (ha pos pins s σ H _ I h) fun us s1 ⟨vs,H1,I1,r1,q1⟩=>?_) hs rfl));obtain⟨a,ev,⟨xs,hq⟩,q⟩:=q1;subst ev;obtain⟨u,rfl,rx⟩:=Lk r1;cases rx;obtain⟨its,rv,pl,hz⟩:=I1.list hq;refine call_enumerate_list pl.isList fun h' he hit hsz hk=>?_;refine wpAny_pyIter_enum he ?_;have I2:Inv X pins σ H1 { s1 with heap:=h' }:=I1.kept (t':=s1.toks) hk;refine⟨_,[s1.heap.objs.size+1,s1.heap.objs.size],_,_,H1,rfl,I2,L4 a _ _ (Nat.succ_ne_self _),⟨⟨_,he⟩,hit⟩,fun b hb=>?_,q⟩;rcases zAq.mp hb with rfl | hb
 ·exact I1.fpOk (zBn _) (I1.hok.fresh (zBn _))
 ·have eb:b=s1.heap.objs.size:=by simpa using hb
  subst eb;exact I1.fpOk (zAg _) (I1.hok.fresh (zAg _))
theorem Zu {X:Cx} {K:zAb} {es:List Expr} {k:Nat} {t:BF} {n:Nat} {pos:Pos} (hK:X.K=K) (hc:X.calm=true) (h:FW X es t)
  (hn:(assignEach es X.env).length=n:=by rfl) (hst:(assignEach es X.env).findIdx? (·.1)=none:=by rfl):PG X (.Tuple es k pos) (Z7 K n t):=hK▸Yj hc h hn hst
structure GX (P:Program) (w:World) (K:zAb) (mg:Str->Option Value) (base:Heap) (k:Nat) (C:Addr) (m:Str) (ps:List Str) (sp:Sp):Prop where
 ex:∃ f fd,FnOk P w K mg base Dv k f fd ps sp/\Binds K fd ps []/\Pm K C m f
 cl:Cls K C
structure Gr (P:Program) (w:World) (K:zAb) (mg:Str->Option Value) (base:Heap) (k:Nat) (x:Str) (C:Addr) (ps:List Str) (sp:Sp):Prop where
 ex:∃ f fd,Mk K C f/\FnOk P w K mg base Dv k f fd ps sp/\Binds K fd ps []/\mg x=some (.ref C)
theorem Eb {X:Cx} {k:Nat} {x:Str} {C:Addr} {ps:List Str} {sp:Sp} {e:Expr} {es:List Expr} {p pos:Pos} {t:TA} (M:Gr X.prog X.w X.K X.mg X.base k x C ps sp) (hr:Room (k+1) X.A) (hg:Gl X x) (ha:PA X (e::es) t)
  (hdb:(x==("__debug__" : Str))=false:=by decide) (he:starEach (e::es) X.env=(false,eval e X.env)::starEach es X.env:=by rfl) (hpl:(backTo pos (starEach es X.env)).any (·.1)=false:=by rfl) :
  PE X (.Call (.Name x p) (e::es) [] pos) (BC C sp [] E0 t):=by
 obtain⟨f,fd,mk,F,b,hm⟩:=M.ex;exact X3 mk F hr hg hm b .nil V3 ha hdb he hpl
theorem AY {P:Program} {w:World} {K:zAb} {tg:Expr} (it:Addr) (lo:Int) (n:Nat):Um P w K tg (AV lo n) [it] it (fun i h=>IsLongIter h it (lo+(i:Nat)*1) ((n:Int)-(i:Nat)) 1) where
 mem:=by simp
 obj:=fun i h st b hb=>by
  have e:b=it:=by simpa using hb
  subst e;exact⟨_,st,fun v z=>by
   have z':Data.fields _=Data.cell v:=z;cases z'⟩
 keep:=fun i h h' st k=>k it (by simp) _ st
 item:=by
  intro X hP hw hK hc i pins s σ H E I hf st hg;subst hP hw hK;obtain⟨f0,f1,f2,f3,f4,f5⟩:=hf it (by simp);have W:=Walks.longrange (prog:=X.prog) (w:=X.w) (I.ok.hd hc) it lo 1 n;refine W.item i s _ _ hg st fun v h' tk hv st' kk=>?_;obtain⟨t,rfl⟩:=hv;have I1:Inv X pins σ H { s with heap:=h',toks:=tk }:=I.turned (fun b o hb e=>kk b o (by simpa using hb) e) f0 f1 f3 f4 f5;refine⟨_,rfl,Sz (s:={ s with heap:=h',toks:=tk }) (n := "longrange_iterator") st' rfl rfl (by decide) ⟨.int (lo+i),H,I1,⟨t,?_⟩,⟨rfl,rfl⟩,st',fun b hb=>(hf b hb).1⟩⟩;rw[Int.mul_one]
 done:=by
  intro X hP hw hK hc i pins s σ H E I hf st hg;subst hP hw hK;obtain⟨f0,f1,f2,f3,f4,f5⟩:=hf it (by simp);exact wpAny_pyNext_long_end (I.ok.hd hc) st (by have:n<=i:=hg; lia) fun h' eb=>⟨rfl,I.turned (t':=s.toks) (fun b o hb e=>eb b o hb e) f0 f1 f3 f4 f5⟩
 self:=fun _ _ _ _ _ st h=>wpAny_pyIter_longiter st h
section
variable {X:Cx} {pins:List (Addr×Obj)} {σ:St} {H H':Hp} {s:Shared} {h':Heap}
end
section
variable {X:Cx} {k:Nat} {f:Addr} {fd:zCt} {ps:List Str} {sp:Sp} {x:Str} {p pos:Pos} {e:Expr} {es:List Expr} {t:TA} {W:St->XK}
end
section
variable {X:Cx} {pins pins' pn:List (Addr×Obj)} {σ:St} {H:Hp} {s:Shared} {E:Value->Shared->Prop} {e:Addr}
end
section
variable {X:Cx} {x n:Str} {Ch:Addr} {i:Nat} {body suite:List Stmt} {b₀ : Stmt} {tb:(St->XK)->TS} {ts:TS} {np hpos pos:Pos}
end
section
variable {X:Cx} {k:Nat} {f:Addr} {fd:zCt} {ps:List Str} {sp:Sp} {x:Str} {p pos:Pos} {e:Expr} {es:List Expr} {t:TA}
end
def tx (l:List Nat):Str:=⟨l.toArray⟩
theorem R3 (l:List Nat):(tx l).cps.toList=l:=rfl
theorem Ij (l:List Nat):(tx l).length=l.length:=by simp [tx,Str.length]
theorem BU (x:Str):tx x.cps.toList=x:=by cases x; rfl
theorem CM {l m:List Nat} (h:tx l=tx m):l=m:=by
 have e:=congrArg (fun z:Str=>z.cps.toList) h;exact e
theorem M8 (l m:List Nat):tx l++tx m=tx (l++m):=by
 show (⟨l.toArray++m.toArray⟩:Str)=⟨(l++m).toArray⟩;rw[List.append_toArray]
def Sn (c:Nat):List Nat->List (List Nat)
 | []=>[[]]
 | x::l=>if x=c then []::Sn c l else match Sn c l with
  | []=>[[x]]
  | p::r=>(x::p)::r
theorem EU (c:Nat):∀ l,Sn c l≠[]
 | []=>by simp [Sn]
 | x::l=>by
  unfold Sn
  split
  ·simp
  ·cases Sn c l <;> simp
section
variable {X:Cx}
theorem K9:Ir X (compareOp .NotIn) (fun x y H Q=>∃ c z,x = .str (tx [c])/\y = .str z/\Q (.bl (!decide (c∈z.cps.toList))) H):=by
 intro pins s σ H x y v u Q I rx ry h;obtain⟨c,z,rfl,rfl,q⟩:=h;refine Tk pins s σ H _ _ v u Q I rx ry ⟨tx [c],z,rfl,rfl,?_⟩;rw[show (!(Builtin.Str.occurrences z (tx [c]) 0 z.length 1).isEmpty)=decide (c∈z.cps.toList) from StrLaws.found_one z c];exact q
def BV (x:Str):It:=⟨fun i _=>i<x.cps.size,fun i H v H'=>H'=H/\∃ c,x.cps[i]?=some c/\v = .str (tx [c]),fun i _=>x.cps.size<=i⟩
theorem F6 {P:Program} {w:World} {K:zAb} {tg:Expr} (x:Str) (t:Tok) (it:Addr):Um P w K tg (BV x) [it] it (fun i h=>h.IsStrIter it "str_ascii_iterator" x t i) where
 mem:=by simp
 obj:=fun i h st b hb=>by
  have e:b=it:=by simpa using hb
  subst e;obtain⟨o,e,c,d⟩:=st;exact⟨o,e,fun v z=>by rw[d] at z; cases z⟩
 keep:=fun i h h' st k=>by
  obtain⟨o,e,c,d⟩:=st;exact⟨o,k it (by simp) o e,c,d⟩
 item:=by
  intro X hP hw hK hc i pins s σ H E I hf st hg;subst hP hw hK;obtain⟨f0,f1,f2,f3,f4,f5⟩:=hf it (by simp);have hi:i<x.cps.size:=hg;refine wpAny_pyNext_ascii_item st (c:=x.cps[i]) (by simp [hi]) fun h' st' sb=>?_;have I1:Inv X pins σ H { s with heap:=h',toks:=s.toks+1 }:=I.turned (fun b o hb e=>(sb.2 b hb).trans e) f0 f1 f3 f4 f5;obtain⟨o,e,c,d⟩:=id st';exact⟨_,rfl,Sz (s:={ s with heap:=h',toks:=s.toks+1 }) e c d (by decide) ⟨.str (tx [x.cps[i]]),H,I1,⟨_,rfl⟩,⟨rfl,_,by simp [hi],rfl⟩,st',fun b hb=>(hf b hb).1⟩⟩
 done:=by
  intro X hP hw hK hc i pins s σ H E I hf st hg;subst hP hw hK;obtain⟨f0,f1,f2,f3,f4,f5⟩:=hf it (by simp);have hi:x.cps.size<=i:=hg;exact wpAny_pyNext_ascii_end (I.ok.hd hc) st (by simp; lia) fun h' eb=>⟨rfl,I.turned (t':=s.toks) (fun b o hb e=>eb b o hb e) f0 f1 f3 f4 f5⟩
 self:=fun _ _ _ _ _ st h=>wpAny_pyIter_striter_ascii st h
theorem E7 {P:Program} {w:World} {K:zAb} {tg:Expr} (x:Str) (t:Tok) (it:Addr):Um P w K tg (BV x) [it] it (fun i h=>h.IsStrIter it "str_iterator" x t i) where
 mem:=by simp
 obj:=fun i h st b hb=>by
  have e:b=it:=by simpa using hb
  subst e;obtain⟨o,e,c,d⟩:=st;exact⟨o,e,fun v z=>by rw[d] at z; cases z⟩
 keep:=fun i h h' st k=>by
  obtain⟨o,e,c,d⟩:=st;exact⟨o,k it (by simp) o e,c,d⟩
 item:=by
  intro X hP hw hK hc i pins s σ H E I hf st hg;subst hP hw hK;obtain⟨f0,f1,f2,f3,f4,f5⟩:=hf it (by simp);have hi:i<x.cps.size:=hg;refine wpAny_pyNext_wide_item st (c:=x.cps[i]) (by simp [hi]) fun h' st' sb=>?_;have I1:Inv X pins σ H { s with heap:=h',toks:=s.toks+1 }:=I.turned (fun b o hb e=>(sb.2 b hb).trans e) f0 f1 f3 f4 f5;obtain⟨o,e,c,d⟩:=id st';exact⟨_,rfl,Sz (s:={ s with heap:=h',toks:=s.toks+1 }) e c d (by decide) ⟨.str (tx [x.cps[i]]),H,I1,⟨_,rfl⟩,⟨rfl,_,by simp [hi],rfl⟩,st',fun b hb=>(hf b hb).1⟩⟩
 done:=by
  intro X hP hw hK hc i pins s σ H E I hf st hg;subst hP hw hK;obtain⟨f0,f1,f2,f3,f4,f5⟩:=hf it (by simp);have hi:x.cps.size<=i:=hg;exact wpAny_pyNext_wide_end (I.ok.hd hc) st (by simp; lia) fun h' eb=>⟨rfl,I.turned (t':=s.toks) (fun b o hb e=>eb b o hb e) f0 f1 f3 f4 f5⟩
 self:=fun _ _ _ _ _ st h=>wpAny_pyIter_striter_wide st h
def GP (tl:TE):TI:=fun σ H R=>tl σ H fun x H1=>∃ z,x = .str z/\R (BV z) H1
theorem S1 {tg l:Expr} {tl:TE} (hl:PE X l tl):PI X tg l (GP tl):=by
 intro pins s σ H R I h;refine Cn (hl pins s σ H _ I h) fun v s1 ⟨x,H1,I1,r1,q1⟩=>?_;obtain⟨z,e,q⟩:=q1;subst e;obtain⟨t,rfl⟩:=r1;have fp:∀ b∈[s1.heap.objs.size],Jx X pins H1 b:=fun b hb=>by
  have e:b=s1.heap.objs.size:=by simpa using hb
  subst e;exact I1.fpOk (zAg _) (I1.hok.fresh (zAg _))
 cases ha:z.cps.all (· < 128) with
 | true=>exact wpAny_pyIter_ascii ha ⟨s1.heap.objs.size,[s1.heap.objs.size],_,_,H1,rfl,I1.kept (t':=s1.toks) fun b o e=>zAc _ e,F6 z t _,⟨_,zAv _ rfl,rfl,rfl⟩,fp,q⟩
 | false=>exact wpAny_pyIter_wide ha ⟨s1.heap.objs.size,[s1.heap.objs.size],_,_,H1,rfl,I1.kept (t':=s1.toks) fun b o e=>zAc _ e,E7 z t _,⟨_,zAv _ rfl,rfl,rfl⟩,fp,q⟩
theorem X8 {l:List Nat} {g:TG} {tb:TS} {D:Mc} {σ:St} {H:Hp} (Pv:Nat->St->Hp->Prop) (h0:Pv 0 σ H)
  (hs:∀ i c σ H,l[i]?=some c->Pv i σ H->g (.str (tx [c])) σ H fun σ2 H2=>tb { D with nx:=Pv (i+1),ct:=Pv (i+1),bk:=D.nx } σ2 H2) (hd:∀ σ H,Pv l.length σ H->D.nx σ H) :
  ∃ W:Nat->Nat->St->Hp->Prop,(∃ m,W 0 m σ H)/\∀ i m σ H,W i m σ H ->
   ((BV (tx l)).stop i H/\D.nx σ H)\/((BV (tx l)).go i H/\∃ N:St->Hp->Prop,(∀ σ' H',N σ' H'->∃ m',m'<m/\W (i+1) m' σ' H')/\∀ x H',(BV (tx l)).yld i H x H'->g x σ H' fun σ2 H2=>tb { D with nx:=N,ct:=N,bk:=D.nx } σ2 H2):=by
 have hz:(tx l).cps.size=l.length:=by simp [tx]
 refine⟨fun i m σ H=>m=l.length-i/\i<=l.length/\Pv i σ H,⟨l.length,by simp,zAC _,h0⟩,?_⟩;rintro i m σ H ⟨rfl,hi,p⟩;by_cases hlt:i<l.length
 ·refine .inr ⟨by show i<(tx l).cps.size; lia,Pv (i+1),fun σ' H' p'=>⟨l.length-(i+1),by lia,rfl,hlt,p'⟩,fun x H' y=>?_⟩
  obtain⟨e,c,hc,y⟩:=y;subst e y;exact hs i c σ _ (by simpa [tx] using hc) p
 ·have e:i=l.length:=by lia
  subst e;exact .inl ⟨by show (tx l).cps.size<=l.length; lia,hd σ H p⟩
end
section
variable {prog:Program} {w:World} {A:Around} {E:Value->Shared->Prop} {K:zAb} {x D:Addr} {ox:Obj} {od:Option Obj}
end
section
variable {X:Cx} {k:Nat} {f C:Addr} {fd:zCt} {ps:List Str} {sp:Sp} {x:Str} {p pos:Pos} {e:Expr} {es:List Expr} {t:TA} {W:St->XK}
end
section
variable {X:Cx} {x:Str} {C f:Addr} {p pos:Pos} {e:Expr} {es:List Expr} {t:TA}
end
section
variable {prog:Program} {w:World} {A:Around} {Ex:Value->Shared->Prop} {hp:Heap} {gs:Array GenState} {dr:Drawn} {tk:Nat} {os:OsState}
variable {nm q:Str} {C N fI:Addr} {bs bm bmB:List Value} {hdct:Bool} {sn:List Str} {sub:List Value} {ab:Bool} {col:Option Bool} {dd:Option Addr} {k0 k1 k2 k3 k5:Option Value} {B newId initId:String} {mN:Str->Option Value} {us:List Value} {oI:Obj}
theorem Rm {Q:Fin->Shared->Prop} (FB:ExcBaseFacts B newId initId bmB) (T:OwnTail hp bmB bm) (cO:hp.get? C=some (excClassObj nm q C N bs bm hdct sn sub ab col dd k0 k1 k2 k3 k5 newId)) (nN:hp.Ns N mN)
  (iN:mN "__init__" = some (.ref fI)) (fO:hp.get? fI=some oI) (fC:oI.cls = .type "function") (sz:us.length<=sizeLine)
  (k:∀ h1 e,Heap.MadeExcOf hp h1 e (.ref C) us->wpAny (model prog w) A (call (.ref fI) (.ref e::us)) (fun r s1=>r = .none/\Q (.done (.ret (.ref e))) s1) Ex ⟨h1,gs,dr,tk,os⟩) :
  wpAny (model prog w) A (Builtin.«type.__call__» ⟨.ref C::us,[]⟩) Q Ex ⟨hp,gs,dr,tk,os⟩:=by
 repeat (first | with_reducible refine wpAny_loadPart_at cO ?_ | with_reducible refine wpAny_madeBy_exc cO ?_ | wp_step)
 refine codeAny_call_builtin_code (Code.quiet_builtin _ FB.quiet) (wpAny_check_new_subT FB T cO (codeAny_exc_new_subT FB T cO ?_ sz));show wpAny _ _ _ _ _ _;have keep:∀ b o,hp.get? b=some o->((hp.push { cls:=.type "tuple",data:=.seq us.toArray }).push { cls:=.ref C,data:=.fields #[.ref hp.objs.size,.none,.none,.none,.bool false,.none] }).get? b=some o:=
  fun b o z=>zAc _ (zAc _ z)
 have cO1:=keep _ _ cO;have new:((hp.push { cls:=.type "tuple",data:=.seq us.toArray }).push { cls:=.ref C,data:=.fields #[.ref hp.objs.size,.none,.none,.none,.bool false,.none] }).get? (hp.objs.size+1)
   = some { cls:=.ref C,data:=.fields #[.ref hp.objs.size,.none,.none,.none,.bool false,.none] }:=by heap_get
 have inC:(Value.ref C::bm).contains (.ref C)=true:=by simp
 unfold isInstance
 repeat (first | with_reducible refine wpAny_loadPart_at new ?_ | (with_reducible refine wpAny_isSubtype_exc cO1 ?_; rw[inC]) | wp_step)
 show wpAny _ _ (typeLookup (.ref C) _) _ _ _;refine wpAny_typeLookup_tail cO1 (nN.keeps keep) (T.keeps keep) FB.mroIs FB.init.lookup ?_;rw[iN];refine wpAny_holding (zCp ?_);unfold bindSpecial;refine zCp (wpAny_typeOf (T := "function") ⟨_,keep _ _ fO,fC⟩ ?_);rw[if_pos (by decide)];refine zCq (zCp (wpAny_mono (k _ (hp.objs.size+1) ⟨keep,Heap.get?_none_of_le (zBn _),hp.objs.size,new,Heap.get?_none_of_le (zAg _),?_⟩) (fun r s1 hr=>?_) fun _ _ z=>z))
 ·exact zAc _ (Heap.get?_push_at rfl rfl)
 ·obtain⟨rfl,hQ⟩:=hr
  wp_walk
  exact hQ
theorem FC {Q:Value->Shared->Prop} (FB:ExcBaseFacts B newId initId bmB) (T:OwnTail hp bmB bm) (cO:hp.get? C=some (excClassObj nm q C N bs bm hdct sn sub ab col dd k0 k1 k2 k3 k5 newId)) (nN:hp.Ns N mN)
  (iN:mN "__init__" = some (.ref fI)) (fO:hp.get? fI=some oI) (fC:oI.cls = .type "function") (sz:us.length<=sizeLine)
  (k:∀ h1 e,Heap.MadeExcOf hp h1 e (.ref C) us->wpAny (model prog w) (A.under (.builtin "type.__call__" ⟨.ref C::us,[]⟩)) (call (.ref fI) (.ref e::us)) (fun r s1=>r = .none/\Q (.ref e) s1) Ex ⟨h1,gs,dr,tk,os⟩) :
  wpAny (model prog w) A (call (.ref C) us) Q Ex ⟨hp,gs,dr,tk,os⟩:=by
 have l1:=tc_lookup;have l2:=tc_bind (.ref C);have isT:(⟨hp,gs,dr,tk,os⟩:Shared).TypeIs (.ref C) "type" := ⟨_,cO,rfl⟩;refine wpAny_call (codeAny_of_tree ?_);show wpAny _ _ (callAny (.ref C) _) _ _ _
 repeat (any_goals (first | assumption | with_reducible refine wpAny_loadPart_at cO ?_ | wp_step))
 refine⟨rfl,codeAny_call_builtin_at (Code.quiet_builtin _ (by ac_nf)) entry_typeCall (wpAny_check_type_call_sub cO (Rm FB T cO nN iN fO fC sz fun h1 e m=>?_))⟩;exact k h1 e m
end
section
variable {prog:Program} {w:World} {A:Around} {E:Value->Shared->Prop} {K:zAb} {x D:Addr} {ox:Obj} {od:Option Obj}
end
section
variable {X:Cx} {pins:List (Addr×Obj)} {σ:St} {H:Hp} {s:Shared} {e:Addr}
end
section
variable {X:Cx} {x f:Str} {C g:Addr} {p pos apos:Pos} {e o value:Expr} {es:List Expr} {t:TA} {ta tv:TE}
end
section
variable {X:Cx}
theorem Y1:∀ {ps:List Str} {its:List Value},Vals (ps.map V.str) its->∃ l:List (Str×Tok),its=strValues l/\l.map (·.1)=ps
 | [],its,h=>by cases h; exact⟨[],rfl,rfl⟩
 | p::r,its,h=>by
  cases h with
  | cons a b=>
   obtain⟨t,rfl⟩:=a;obtain⟨l,rfl,e⟩:=Y1 b;exact⟨(p,t)::l,rfl,by rw[zAw,e]⟩
end
inductive D where
 | at (v:V)
 | seq (t:Bool) (ds:List D)
mutual
def Oj (K:zAb) (H:Hp):D->V->Prop
 | .at v,x=>x=v/\Ci v=true
 | .seq t ds,x=>∃ a xs,x = .ref a/\(t=true->SqT K H a xs)/\(t=false->SqL K H a xs)/\Reps K H ds xs
def Reps (K:zAb) (H:Hp):List D->List V->Prop
 | [],xs=>xs=[]
 | d::ds,xs=>∃ y ys,xs=y::ys/\Oj K H d y/\Reps K H ds ys
end
mutual
def M6:D->D->Bool
 | .at v,.at u=>Sy v u
 | .seq t ds,.seq u es=>t==u&&eqDs ds es
 | _,_=>false
def eqDs:List D->List D->Bool
 | [],[]=>true
 | d::ds,e::es=>M6 d e&&eqDs ds es
 | _,_=>false
end
mutual
def DV:D->Nat
 | .at _=>0
 | .seq _ ds=>deps ds+1
def deps:List D->Nat
 | []=>0
 | d::ds=>max (DV d) (deps ds)
end
theorem Reps.len {K:zAb} {H:Hp}:∀ {ds:List D} {xs:List V},Reps K H ds xs->ds.length=xs.length
 | [],xs,h=>by unfold Reps at h; subst h; rfl
 | d::ds,xs,h=>by
  unfold Reps at h;obtain⟨y,ys,rfl,_,h⟩:=h;rw[zAj,zAj,Reps.len h]
def FJ (ds es:List D) (j:Nat):Bool:=match ds[j]?,es[j]? with
 | some d,some e=>M6 d e
 | _,_=>true
theorem Qc:∀ {ds es:List D},ds.length≠es.length->eqDs ds es=false
 | [],[],h=>absurd rfl h
 | [],_::_,_=>by unfold eqDs; rfl
 | _::_,[],_=>by unfold eqDs; rfl
 | d::ds,e::es,h=>by
  unfold eqDs;rw[Qc (ds:=ds) (es:=es) fun q=>h (by rw[zAj,zAj,q]),zCj]
theorem Pk:∀ {ds es:List D},ds.length=es.length->(zAM ds.length).all (FJ ds es)=eqDs ds es
 | [],[],_=>by unfold eqDs; rfl
 | [],_::_,h=>by simp at h
 | _::_,[],h=>by simp at h
 | d::ds,e::es,h=>by
  have ih:=Pk (ds:=ds) (es:=es) (by simpa using h);unfold eqDs;rw[zAj,List.range_succ_eq_map,zBQ,List.all_map,<- ih];rfl
theorem Vg {v:V} (h:Ci v=true):Sy v v=true:=by
 cases v <;> first | exact absurd (show false=true from h) zAi | rfl | simp [Sy]
section
variable {X:Cx} {pins:List (Addr×Obj)} {σ:St} {H:Hp} {s:Shared}
theorem Wn {a:Addr} {xs ys:List V} (I:Inv X pins σ H s) (h1:SqL X.K H a xs) (h2:SqT X.K H a ys):False:=by
 obtain⟨its,_,p,_⟩:=I.list h1;obtain⟨js,_,q,_⟩:=I.tuple h2;exact SeqAt.ne_of_list_tuple p.isList q rfl
mutual
theorem Wr (I:Inv X pins σ H s):∀ (d e:D) (x:V),Oj X.K H d x->Oj X.K H e x->M6 d e=true
 | .at v,.at u,x,h1,h2=>by
  unfold Oj at h1 h2;obtain⟨rfl,f⟩:=h1;obtain⟨rfl,_⟩:=h2;unfold M6;exact Vg f
 | .at v,.seq t ds,x,h1,h2=>by
  unfold Oj at h1 h2;obtain⟨rfl,f⟩:=h1;obtain⟨a,xs,rfl,_⟩:=h2;exact absurd (show false=true from f) zAi
 | .seq t ds,.at u,x,h1,h2=>by
  unfold Oj at h1 h2;obtain⟨rfl,f⟩:=h2;obtain⟨a,xs,rfl,_⟩:=h1;exact absurd (show false=true from f) zAi
 | .seq t ds,.seq u es,x,h1,h2=>by
  unfold Oj at h1 h2;obtain⟨a,xs,rfl,t1,l1,r1⟩:=h1;obtain⟨b,ys,e,t2,l2,r2⟩:=h2;cases e;unfold M6;cases t with
  | true=>
   cases u with
   | true=>
    have e:=I.tuple_inj (t1 rfl) (t2 rfl);subst e;rw[reps_same I ds es xs r1 r2];rfl
   | false=>exact (Wn I (l2 rfl) (t1 rfl)).elim
  | false=>
   cases u with
   | true=>exact (Wn I (l1 rfl) (t2 rfl)).elim
   | false=>
    have e:=I.list_inj (l1 rfl) (l2 rfl);subst e;rw[reps_same I ds es xs r1 r2];rfl
theorem reps_same (I:Inv X pins σ H s):∀ (ds es:List D) (xs:List V),Reps X.K H ds xs->Reps X.K H es xs->eqDs ds es=true
 | [],[],_,_,_=>by unfold eqDs; rfl
 | [],e::es,xs,h1,h2=>by
  unfold Reps at h1 h2;subst h1;obtain⟨_,_,e,_⟩:=h2;cases e
 | d::ds,[],xs,h1,h2=>by
  unfold Reps at h1 h2;subst h2;obtain⟨_,_,e,_⟩:=h1;cases e
 | d::ds,e::es,xs,h1,h2=>by
  unfold Reps at h1 h2;obtain⟨y,ys,rfl,h1,r1⟩:=h1;obtain⟨z,zs,e,h2,r2⟩:=h2;cases e;unfold eqDs;rw[Wr I d _ y h1 h2,reps_same I ds es ys r1 r2];rfl
end
theorem E5 {A:Around} {v:V} {u:Value} {a:Addr} {its:Array Value} (f:Ci v=true) (r:RelV v u) (p:s.heap.IsList a its) (hu:A.units<cLine):SeqAt.EqAt A s u (.ref a) false:=by
 cases v with
 | non=>cases r; exact .none_list p hu
 | bl b=>cases r; exact .bool_list b p hu
 | int i=>obtain⟨t,rfl⟩:=r; exact .int_list i t p hu
 | str i=>obtain⟨t,rfl⟩:=r; exact .str_list i t p hu
 | _=>exact absurd (show false=true from f) zAi
theorem O5 {A:Around} {v:V} {u:Value} {a:Addr} {its:Array Value} (f:Ci v=true) (r:RelV v u) (p:s.heap.IsTuple a its) (hu:A.units<cLine):SeqAt.EqAt A s u (.ref a) false:=by
 cases v with
 | non=>cases r; exact .none_tuple p hu
 | bl b=>cases r; exact .bool_tuple b p hu
 | int i=>obtain⟨t,rfl⟩:=r; exact .int_tuple i t p hu
 | str i=>obtain⟨t,rfl⟩:=r; exact .str_tuple i t p hu
 | _=>exact absurd (show false=true from f) zAi
theorem I9 {A:Around} {v:V} {u:Value} {a:Addr} {its:Array Value} (f:Ci v=true) (r:RelV v u) (p:s.heap.IsList a its) (hu:A.units<cLine):SeqAt.EqAt A s (.ref a) u false:=by
 cases v with
 | non=>cases r; exact .list_none p hu
 | bl b=>cases r; exact .list_bool b p hu
 | int i=>obtain⟨t,rfl⟩:=r; exact .list_int i t p hu
 | str i=>obtain⟨t,rfl⟩:=r; exact .list_str i t p hu
 | _=>exact absurd (show false=true from f) zAi
theorem P6 {A:Around} {v:V} {u:Value} {a:Addr} {its:Array Value} (f:Ci v=true) (r:RelV v u) (p:s.heap.IsTuple a its) (hu:A.units<cLine):SeqAt.EqAt A s (.ref a) u false:=by
 cases v with
 | non=>cases r; exact .tuple_none p hu
 | bl b=>cases r; exact .tuple_bool b p hu
 | int i=>obtain⟨t,rfl⟩:=r; exact .tuple_int i t p hu
 | str i=>obtain⟨t,rfl⟩:=r; exact .tuple_str i t p hu
 | _=>exact absurd (show false=true from f) zAi
theorem B1 {A:Around} {its js:List Value} {e:Nat->Bool} (h:∀ j u v,its[j]?=some u->js[j]?=some v->SeqAt.EqAt A s u v (e j)):∀ j (h1:j<its.toArray.size) (h2:j<js.toArray.size),SeqAt.EqAt A s its.toArray[j] js.toArray[j] (e j):=fun j h1 h2=>by
 rw[zAd] at h1 h2;rw[zBU,zBU];exact h j _ _ (zAf h1) (zAf h2)
theorem Xc {A:Around} {a b:Addr} {xs ys:List V} {ds es:List D} (I:Inv X pins σ H s) (hu:A.units<cLine) (h1:SqL X.K H a xs) (h2:SqL X.K H b ys) (r1:Reps X.K H ds xs) (r2:Reps X.K H es ys)
  (h:∀ its js,Vals xs its->Vals ys js->∀ j u v,its[j]?=some u->js[j]?=some v->SeqAt.EqAt A.in1 s u v (FJ ds es j)):SeqAt.RcAt A s (.ref a) (.ref b) (eqDs ds es)/\SeqAt.RcNeAt A s (.ref a) (.ref b) (!eqDs ds es):=by
 obtain⟨its,q1,p1,z1⟩:=I.list h1;obtain⟨js,q2,p2,z2⟩:=I.list h2;have l1:=q1.length;have l2:=q2.length;have m1:=r1.len;have m2:=r2.len;by_cases hl:ds.length=es.length
 ·rw[<- Pk hl,show ds.length=its.toArray.size by rw[zAd]; lia]
  have hz:its.toArray.size=js.toArray.size:=by rw[zAd,zAd]; lia
  exact⟨SeqAt.RcAt.lists p1.isList p2.isList hz hu (B1 (h its js q1 q2)),SeqAt.RcNeAt.lists p1.isList p2.isList hz hu (B1 (h its js q1 q2))⟩
 ·rw[Qc hl]
  have hz:(its.toArray.size != js.toArray.size)=true:=by simp only [zAd,bne_iff_ne,ne_eq]; lia
  exact⟨SeqAt.RcAt.lists_lengths p1.isList p2.isList hz hu,SeqAt.RcNeAt.lists_lengths p1.isList p2.isList hz hu⟩
theorem D4 {A:Around} {a b:Addr} {xs ys:List V} {ds es:List D} (I:Inv X pins σ H s) (hu:A.units<cLine) (h1:SqT X.K H a xs) (h2:SqT X.K H b ys) (r1:Reps X.K H ds xs) (r2:Reps X.K H es ys)
  (h:∀ its js,Vals xs its->Vals ys js->∀ j u v,its[j]?=some u->js[j]?=some v->SeqAt.EqAt A.in1 s u v (FJ ds es j)):SeqAt.RcAt A s (.ref a) (.ref b) (eqDs ds es)/\SeqAt.RcNeAt A s (.ref a) (.ref b) (!eqDs ds es):=by
 obtain⟨its,q1,p1,z1⟩:=I.tuple h1;obtain⟨js,q2,p2,z2⟩:=I.tuple h2;have l1:=q1.length;have l2:=q2.length;have m1:=r1.len;have m2:=r2.len;have e:((zAM (min its.toArray.size js.toArray.size)).all (FJ ds es)&&its.toArray.size==js.toArray.size)=eqDs ds es:=by
  rw[zAd,zAd];by_cases hl:ds.length=es.length
  ·rw[<- Pk hl,show min its.length js.length=ds.length by lia,show its.length=js.length by lia]
   simp
  ·rw[Qc hl]
   have:(its.length==js.length)=false:=by simp; lia
   rw[this,zCj]
 rw[<- e];exact⟨SeqAt.RcAt.tuples p1 p2 hu (B1 (h its js q1 q2)),SeqAt.RcNeAt.tuples p1 p2 hu (B1 (h its js q1 q2))⟩
mutual
theorem EB (I:Inv X pins σ H s):∀ (d e:D) (A:Around) (x y:V) (u v:Value),A.units+DV d+DV e<cLine->Oj X.K H d x->Oj X.K H e y->RelV x u->RelV y v->SeqAt.EqAt A s u v (M6 d e)
 | .at a,.at b,A,x,y,u,v,hu,h1,h2,ru,rv=>by
  unfold Oj at h1 h2;obtain⟨rfl,f⟩:=h1;obtain⟨rfl,g⟩:=h2;unfold M6;exact Zi ru rv f g
 | .at a,.seq t es,A,x,y,u,v,hu,h1,h2,ru,rv=>by
  unfold Oj at h1 h2;obtain⟨rfl,f⟩:=h1;obtain⟨b,ys,rfl,t2,l2,_⟩:=h2;cases rv;unfold M6;cases t with
  | true=>obtain⟨_,_,p,_⟩:=I.tuple (t2 rfl); exact O5 f ru p (by lia)
  | false=>obtain⟨_,_,p,_⟩:=I.list (l2 rfl); exact E5 f ru p.isList (by lia)
 | .seq t ds,.at b,A,x,y,u,v,hu,h1,h2,ru,rv=>by
  unfold Oj at h1 h2;obtain⟨rfl,f⟩:=h2;obtain⟨a,xs,rfl,t1,l1,_⟩:=h1;cases ru;unfold M6;cases t with
  | true=>obtain⟨_,_,p,_⟩:=I.tuple (t1 rfl); exact P6 f rv p (by lia)
  | false=>obtain⟨_,_,p,_⟩:=I.list (l1 rfl); exact I9 f rv p.isList (by lia)
 | .seq t ds,.seq t' es,A,x,y,u,v,hu,h1,h2,ru,rv=>by
  have k1:=h1;have k2:=h2;unfold Oj at h1 h2;obtain⟨a,xs,rfl,t1,l1,r1⟩:=h1;obtain⟨b,ys,rfl,t2,l2,r2⟩:=h2;cases ru;cases rv;unfold DV at hu;have hu':A.in1.units+deps ds+deps es<cLine:=by rw[Around.in1_units]; lia
  have hu0:A.units<cLine:=by lia
  by_cases hab:a=b
  ·subst hab
   rw[Wr I _ _ _ k1 k2];exact .same _
  ·unfold M6
   cases t with
   | true=>
    cases t' with
    | true=>exact .of_refs hab (D4 I hu0 (t1 rfl) (t2 rfl) r1 r2 (reps_at I ds es A.in1 xs ys hu' r1 r2)).1
    | false=>
     obtain⟨_,_,p,_⟩:=I.tuple (t1 rfl);obtain⟨_,_,q,_⟩:=I.list (l2 rfl);exact .tuple_list p q.isList hu0
   | false=>
    cases t' with
    | true=>
     obtain⟨_,_,p,_⟩:=I.list (l1 rfl);obtain⟨_,_,q,_⟩:=I.tuple (t2 rfl);exact .list_tuple p.isList q hu0
    | false=>exact .of_refs hab (Xc I hu0 (l1 rfl) (l2 rfl) r1 r2 (reps_at I ds es A.in1 xs ys hu' r1 r2)).1
theorem reps_at (I:Inv X pins σ H s):∀ (ds es:List D) (A:Around) (xs ys:List V),A.units+deps ds+deps es<cLine->Reps X.K H ds xs->Reps X.K H es ys ->
  ∀ its js,Vals xs its->Vals ys js->∀ j u v,its[j]?=some u->js[j]?=some v->SeqAt.EqAt A s u v (FJ ds es j)
 | [],es,A,xs,ys,hu,h1,h2,its,js,q1,q2,j,u,v,e1,e2=>by
  unfold Reps at h1;subst h1;cases q1;simp at e1
 | d::ds,[],A,xs,ys,hu,h1,h2,its,js,q1,q2,j,u,v,e1,e2=>by
  unfold Reps at h2;subst h2;cases q2;simp at e2
 | d::ds,e::es,A,xs,ys,hu,h1,h2,its,js,q1,q2,j,u,v,e1,e2=>by
  unfold Reps at h1 h2;obtain⟨y,ys',rfl,k1,r1⟩:=h1;obtain⟨z,zs',rfl,k2,r2⟩:=h2;unfold deps at hu;cases q1 with
  | cons ru t1=>
   cases q2 with
   | cons rv t2=>
    cases j with
    | zero=>
     simp only [List.getElem?_cons_zero,Option.some.injEq] at e1 e2;subst e1 e2;exact EB I d e A y z _ _ (by lia) k1 k2 ru rv
    | succ j=>
     simp only [zAL] at e1 e2;exact reps_at I ds es A ys' zs' (by lia) r1 r2 _ _ t1 t2 j u v e1 e2
end
end
section
variable {X:Cx}
def CV (K:zAb) (neg:Bool):R2:=fun x y H Q=>∃ t ds es,Oj K H (.seq t ds) x/\Oj K H (.seq t es) y/\deps ds+deps es<=40/\Q (.bl (if neg then !eqDs ds es else eqDs ds es)) H
theorem FY {X:Cx} (neg:Bool) (hu:X.A.units+64<cLine):Ir X (compareOp (if neg then .NotEq else .Eq)) (CV X.K neg):=by
 intro pins s σ H x y v u Q I rx ry h;obtain⟨t,ds,es,h1,h2,hd,q⟩:=h;unfold Oj at h1 h2;obtain⟨a,xs,rfl,t1,l1,r1⟩:=h1;obtain⟨b,ys,rfl,t2,l2,r2⟩:=h2;cases rx;cases ry;have hu':X.A.in1.units+deps ds+deps es<cLine:=by rw[Around.in1_units]; lia
 have hu0:X.A.units<cLine:=by lia
 have z:SeqAt.RcAt X.A s (.ref a) (.ref b) (eqDs ds es)/\SeqAt.RcNeAt X.A s (.ref a) (.ref b) (!eqDs ds es):=by
  cases t with
  | true=>exact D4 I hu0 (t1 rfl) (t2 rfl) r1 r2 (reps_at I ds es X.A.in1 xs ys hu' r1 r2)
  | false=>exact Xc I hu0 (l1 rfl) (l2 rfl) r1 r2 (reps_at I ds es X.A.in1 xs ys hu' r1 r2)
 cases neg with
 | true=>exact z.2 X.prog X.w _ _ ⟨.bl (!eqDs ds es),H,I,rfl,q⟩
 | false=>exact z.1 X.prog X.w _ _ ⟨.bl (eqDs ds es),H,I,rfl,q⟩
theorem Ra {K:zAb} (hu:X.A.units+64<cLine) (hK:X.K=K:=by rfl):Ir X (compareOp .Eq) (CV K false):=hK▸FY false hu
theorem DQ {K:zAb} (hu:X.A.units+64<cLine) (hK:X.K=K:=by rfl):Ir X (compareOp .NotEq) (CV K true):=hK▸FY true hu
theorem Ow {k:Nat} {A:Around} (hr:Room k A):A.units+64<cLine:=hr.units
theorem Gn {K:zAb} (h:X.K=K):EK X (Xf K):=h▸Be
theorem Px {K K':zAb} {a:Addr} {xs:List V} {tc:TT} {te:TE} {σ:St} {ix:List Nat} {QQ:Hp->Prop} {H1:Hp} {p:Addr} (Pv:Nat->List V->Hp->Prop) (h0:Pv 0 [] (upd H1 p (.lst [])))
  (hp:∀ i ys H,i<=xs.length->Pv i ys H->H p=some (.lst ys)/\ys.length<=i/\SqL K H a xs) (hn:xs.length<=sizeLine)
  (hs:∀ i x ys H,xs[i]?=some x->Pv i ys H->∃ t y z,x = .ref t/\SqT K' H t [y,z]/\tc (some y::some z::Dq ix σ) H fun b H5=>if b=true then te (some y::some z::Dq ix σ) H5 fun v H6=>H6 p=some (.lst ys) /\
   (some y::some z::Dq ix σ)=(some y::some z::Dq ix σ)/\Pv (i+1) (ys++[v]) (upd H6 p (.lst (ys++[v]))) else (some y::some z::Dq ix σ)=(some y::some z::Dq ix σ)/\Pv (i+1) ys H5)
  (hd:∀ ys H,Pv xs.length ys H->QQ H) :
  Sw (Z7 K' 2 (Vq (Dw 0) (Vq (Dw 1) CT))) tc te 2 ix σ (CW K a) p H1 QQ:=by
 refine⟨fun i m ys σ2 H2=>m=xs.length-i/\i<=xs.length/\(∃ o o',σ2=o::o'::Dq ix σ)/\Pv i ys H2,⟨xs.length,by simp,zAC _,⟨none,none,rfl⟩,h0⟩,?_⟩;rintro i m ys σ2 H2 ⟨rfl,hi,⟨o,o',rfl⟩,pv⟩;obtain⟨hp2,hl2,hq2⟩:=hp i ys H2 hi pv;refine⟨hp2,?_⟩;by_cases hlt:i<xs.length
 ·refine .inr ⟨⟨xs,xs[i],hq2,by simp [hlt]⟩,by lia,fun x H3 yy=>?_⟩
  obtain⟨e,yy⟩:=yy;subst e;obtain⟨t,y,z,ex,ht,q⟩:=hs i x ys _ (yy xs hq2) pv;subst ex;refine⟨fun ys' σ' H'=>σ'=(some y::some z::Dq ix σ)/\Pv (i+1) ys' H',fun ys' σ' H' ⟨e,q⟩=>⟨xs.length-(i+1),by lia,rfl,hlt,⟨_,_,e⟩,q⟩,?_⟩;exact⟨t,_,rfl,ht,rfl,_,_,rfl,_,_,rfl,rfl,q⟩
 ·have e:i=xs.length:=by lia
  subst e;exact .inl ⟨⟨xs,hq2,zAg _⟩,hd ys H2 pv⟩
end
section
variable {X:Cx} {k:Nat} {m x:Str} {ps:List Str} {sp:Sp} {e:Expr} {es:List Expr} {p apos pos:Pos} {t:TA} {W:St->XK}
def DP (Fam:Addr->Prop) (m:Str) (sp:Addr->Sp) (ta:TE) (t:TA):TE:=fun σ H Q=>ta σ H fun x H1=>∃ a C dx fs,x = .ref a/\H1 a=some (.ins C dx fs)/\Fam C/\fs.lookup m=none/\t σ H1 fun vs H2=>sp C (.ref a::vs) H2 Q E0
structure R8 (P:Program) (w:World) (K:zAb) (mg:Str->Option Value) (base:Heap) (k:Nat) (Fam:Addr->Prop) (m:Str) (ps:List Str) (sp:Addr->Sp):Prop where
 ex:∀ C,Fam C->GX P w K mg base k C m ps (sp C)
theorem Nb {Fam:Addr->Prop} {spC:Addr->Sp} {o:Expr} {ta:TE} {pl:Sem Bool} (M:R8 X.prog X.w X.K X.mg X.base k Fam m ps spC) (hr:Room k X.A) (he:PE X o ta)
  (ht:eval (.Call (.Attribute o m apos) [] [] pos) X.env=(do
   let ov <- eval o X.env
   standAt apos.atName
   let (f,first) <- holding [ov] (getMethod ov m pl)
   callWith pos f first (backTo pos (starEach [] X.env)) (backToKw pos (keywordEach [] X.env))):=by rfl) :
  PE X (.Call (.Attribute o m apos) [] [] pos) (DP Fam m spC ta Uz):=by
 intro pins s σ H Q I h;refine PySem.W.methodCall_KW (pl:=pl) (Cn (he pins s σ H _ I h) fun u s1 ⟨x,H1,I1,rx,a,C,dx,fs,ex,ea,hF,l,q⟩=>?_) ht;subst ex;obtain rfl:u=Value.ref a:=rx;obtain⟨f,fd,F,b,hm⟩:=(M.ex C hF).ex;refine Pp I1 ea (M.ex C hF).cl hm l ?_;exact PySem.W.callWith_K0 (first:=[.ref a]) I1.kIn hm.kp (Q2 (us:=[.ref a]) (vs:=[.ref a]) F hr b .nil V3 I1 (.cons rfl .nil) q)
end
def HV (lo c:Int) (n:Nat):It:=⟨fun i _=>i<n,fun i H x H'=>H'=H/\x = .int (lo+i*c),fun i _=>n<=i⟩
theorem Wx {P:Program} {w:World} {K:zAb} {tg:Expr} (it:Addr) (lo c:Int) (n:Nat):Um P w K tg (HV lo c n) [it] it (fun i h=>IsRangeIter h it (lo+(i:Nat)*c) ((n:Int)-(i:Nat)) c) where
 mem:=by simp
 obj:=fun i h st b hb=>by
  have e:b=it:=by simpa using hb
  subst e;exact⟨_,st,fun v z=>by
   have z':Data.fields _=Data.cell v:=z;cases z'⟩
 keep:=fun i h h' st k=>k it (by simp) _ st
 item:=by
  intro X hP hw hK hc i pins s σ H E I hf st hg;subst hP hw hK;obtain⟨f0,f1,f2,f3,f4,f5⟩:=hf it (by simp);have W:=Walks.range (prog:=X.prog) (w:=X.w) (I.ok.hd hc) it lo c n;refine W.item i s _ _ hg st fun v h' tk hv st' kk=>?_;obtain⟨t,rfl⟩:=hv;have I1:Inv X pins σ H { s with heap:=h',toks:=tk }:=I.turned (fun b o hb e=>kk b o (by simpa using hb) e) f0 f1 f3 f4 f5;exact⟨_,rfl,Sz (s:={ s with heap:=h',toks:=tk }) (n := "range_iterator") st' rfl rfl (by decide) ⟨.int (lo+i*c),H,I1,⟨t,rfl⟩,⟨rfl,rfl⟩,st',fun b hb=>(hf b hb).1⟩⟩
 done:=by
  intro X hP hw hK hc i pins s σ H E I hf st hg;subst hP hw hK;obtain⟨f0,f1,f2,f3,f4,f5⟩:=hf it (by simp);exact wpAny_pyNext_range_end (I.ok.hd hc) st (by have:n<=i:=hg; lia) fun h' eb=>⟨rfl,I.turned (t':=s.toks) (fun b o hb e=>eb b o hb e) f0 f1 f3 f4 f5⟩
 self:=fun _ _ _ _ _ st h=>wpAny_pyIter_rangeiter st h
def Vc (lo hi c:Int):Nat:=(Builtin.Range.rangeSize lo hi c).toNat
theorem AN {lo hi c:Int} (hc:0<c):0<=Builtin.Range.rangeSize lo hi c:=by
 unfold Builtin.Range.rangeSize;rw[if_pos hc]
 split
 ·have:=Int.ediv_nonneg (a:=hi-lo-1) (b:=c) (by lia) (by lia)
  lia
 ·lia
def EW (ta:TA):TI:=fun σ H R=>ta σ H fun vs H1=>∃ i j c:Int,vs=[.int i,.int j,.int c]/\Builtin.Range.small i j c=true/\0<c/\c<1073741824/\R (HV i c (Vc i j c)) H1
theorem EH {X:Cx} {tg:Expr} {a b d:Expr} {ta:TA} {p pos:Pos} (hg:Gl X "range") (hm:X.mg "range" = none) (ha:PA X [a,b,d] ta) (hs:starEach [a,b,d] X.env=[(false,eval a X.env),(false,eval b X.env),(false,eval d X.env)]:=by rfl)
  (hs2:starEach [b,d] X.env=[(false,eval b X.env),(false,eval d X.env)]:=by rfl):PI X tg (.Call (.Name "range" p) [a,b,d] [] pos) (EW ta):=by
 intro pins s σ H R I h;refine Call_ (Dy I hg hm boot_range (PyProof.Rows.callWith_type1 (Cn (ha pos pins s σ H _ I h) fun us s1 ⟨vs,H1,I1,r1,q1⟩=>?_) (by rw[hs,hs2]) (by rw[hs2]; rfl)));obtain⟨lo,hi,c,e,sm,c0,c1,q⟩:=q1;subst e;cases r1 with
 | cons r rr=>
  cases rr with
  | cons r' rr=>
   cases rr with
   | cons r'' rr=>
    cases rr
    obtain⟨t,rfl⟩:=r;obtain⟨u,rfl⟩:=r';obtain⟨v,rfl⟩:=r'';refine call_range_3 (by lia) ?_ (.inl (PyProof.noPylong_small (by lia)));have I2:Inv X pins σ H1 { s1 with heap:=s1.heap.push { cls:=.type "range",data:=.fields #[.int lo t,.int hi u,.int c v] },toks:=s1.toks }:=I1.kept fun b o e=>zAc _ e;have fp:∀ b∈[(s1.heap.push { cls:=.type "range",data:=.fields #[.int lo t,.int hi u,.int c v] }).objs.size],Jx X pins H1 b:=fun b hb=>by
     have e:b=(s1.heap.push { cls:=.type "range",data:=.fields #[.int lo t,.int hi u,.int c v] }).objs.size:=by simpa using hb
     subst e;exact I2.fpOk (zAg _) (I2.hok.fresh (zAg _))
    refine wpAny_pyIter_range (IsRange.new ..) sm ?_;refine⟨_,_,_,_,H1,rfl,I2.kept (t':=s1.toks) fun b o e=>zAc _ e,Wx _ lo c (Vc lo hi c),?_,fp,q⟩;have e1:lo+((0:Nat):Int)*c=lo:=by simp
    have e2:((Vc lo hi c:Nat):Int)-((0:Nat):Int)=Builtin.Range.rangeSize lo hi c:=by
     have:=AN (lo:=lo) (hi:=hi) c0;unfold Vc
     lia
    show IsRangeIter _ _ (lo+((0:Nat):Int)*c) (((Vc lo hi c:Nat):Int)-((0:Nat):Int)) c;rw[e1,e2];exact zAv _ rfl
section
variable {X:Cx}
end
structure HJ (K:zAb) (mg:Str->Option Value) (x:Str) (C:Addr):Prop where
 makes:zCc K C=true
 init:zAh K (.ref C) "__init__" = some (some (.builtin "object.__init__"))
 kp:zAX K (.ref C)=true
 at_:mg x=some (.ref C)
def GI (C:Addr):TE:=fun _ H Q=>∀ y dx,H y=none->H dx=none->dx≠y->Q (.ref y) (upd (upd H dx (.own y)) y (.ins C dx []))
theorem AE {X:Cx} {x:Str} {C:Addr} {p pos:Pos} (M:HJ X.K X.mg x C) (hg:Gl X x) (hdb:(x==("__debug__" : Str))=false:=by decide):PE X (.Call (.Name x p) [] [] pos) (GI C):=by
 intro pins s σ H Q I h;refine wpAny_Call_Name_kw (Ox I hg M.at_ ?_ hdb);refine PySem.W.callWith_K0 I.kIn M.kp (wpAny_call (K0 I.kIn M.makes M.init (fun self=>PySem.W.Looks.of_pure (PySem.W.oi_bind self)) ?_));have hq:=h (s.heap.objs.size+1) s.heap.objs.size (I.hok.fresh (zBn _)) (I.hok.fresh (zAg _)) (zAs (zBy _));have I2:=Inv.made (C:=C) I;have Y:=PySem.W.makes_of (M:=model X.prog X.w) I.kIn M.makes;have ob:((s.heap.push zAO).push (zBb C s.heap.objs.size)).get? (s.heap.objs.size+1)=some (zBb C s.heap.objs.size):=by
  have e:(s.heap.push zAO).objs.size=s.heap.objs.size+1:=by rw[zBt]
  rw[<- e];exact zAv _ rfl
 have t1:PySem.W.Looks (model X.prog X.w) ((s.heap.push zAO).push (zBb C s.heap.objs.size)) (typeOf (.ref (s.heap.objs.size+1))) (.ref C):=(PySem.W.Looks.ld ob).andThen .now;have t2:PySem.W.Looks (model X.prog X.w) ((s.heap.push zAO).push (zBb C s.heap.objs.size)) (isInstance (.ref (s.heap.objs.size+1)) (.type "object")) true:=t1.andThen (Y.top.keeps fun b o e=>zAc _ (zAc _ e));obtain⟨hh,g,d,t,os⟩:=s;refine codeAny_call_builtin PySem.W.oi_plain PySem.W.entry_oi (@PySem.W.check_slot (model X.prog X.w) _ _ _ "object.__init__" "object" "__init__" (.ref (hh.objs.size+1)) [] [] _ PySem.W.oi_kind PySem.W.oi_split t2 (PySem.W.oi_args (.ref (hh.objs.size+1))) ?_);rw[PySem.W.oi_run];exact zCq (And.intro rfl ⟨V.ref (hh.objs.size+1),_,I2,rfl,hq⟩)
end L2
namespace CRS
open PySem PySem.W PyProof.Rows
section
variable {lt:Nat->Nat->Bool} {V:Nat->Prop}
end
section
variable {O:KeyOrd} {key:Nat->O.α} {N:Nat}
variable {β:Type}
end
end CRS
namespace L2
open PySem PySem.Spec PyProof.Rows PySem.W
section
variable {prog:Program} {w:World} {A:Around} {E:Value->Shared->Prop} {s:Shared}
end
theorem Lm:∀ {r:List Int} {us:List Value},Vals (r.map V.int) us->IntsAre us r
 | [],_,.nil=>.nil
 | a::r,_,.cons ⟨t,e⟩ rr=>by subst e; exact .cons a t (Lm rr)
section
variable {X:Cx}
end
end L2
namespace L2
open PySem PySem.Spec PyProof.Rows
structure FunD (K:zAb) (x qual:Str) (st:Stmt) (f:Addr) (fd:zCt):Prop where
 ex:∃ (oc:Value) (od:Option Addr) (dV kV doc pm:Value) (an:Option Addr) (cdv ct:Value) (osl:Array (Option Value)),
  fd=zAV x qual (De st) (Cs st) (An st) dV kV doc pm an cdv ct/\K.lookup f=some ⟨oc,od,.func fd,osl⟩/\zBu K cdv qual=true
 kp:zAX K (.ref f)=true
section
variable {P:Program} {w:World} {K:zAb} {mg:Str->Option Value} {base:Heap}
theorem FunD.ok {x qual:Str} {st:Stmt} {f:Addr} {fd:zCt} {N ps:List Str} {k:Nat} {sp:Sp} (F:FunD K x qual st f fd) (S:Bb N ps (An st)) (len:∀ vs H Q E,sp vs H Q E->vs.length=ps.length)
  (hbody:∀ (cdv:Value) (A:Around) (outer:List Env) (s:Shared) (H:Hp) (vs:List V) (Q:VK) (E:XK),Room k (A.deeper (envOfC qual (An st) s.heap.objs.size f cdv))->sp vs H Q E ->
   ∃ t,PSs (Xn Dv P w K mg base N qual (An st) f cdv A outer s H E).nox (Cs st) t/\t { nx:=fun _ H'=>Q .non H',rt:=Q } (Lh N vs) H):FnOk P w K mg base Dv (k+1) f fd ps sp:=by
 obtain⟨oc,od,dV,kV,doc,pm,an,cdv,ct,osl,e,lk,hcd⟩:=F.ex;subst e;refine BA lk hcd S len fun A outer s H vs Q E hr hsp=>?_;obtain⟨t,h,q⟩:=hbody cdv A outer s H vs Q E hr hsp;exact⟨t,h.nox,q⟩
theorem AD {x qual:Str} {st:Stmt} {f:Addr} {oc:Value} {od an:Option Addr} {osl:Array (Option Value)} {dV kV doc pm cdv ct:Value} (l:K.lookup f=some ⟨oc,od,.func (zAV x qual (De st) (Cs st) (An st) dV kV doc pm an cdv ct),osl⟩)
  (c:zBu K cdv qual=true) (k:zAX K (.ref f)=true):FunD K x qual st f (zAV x qual (De st) (Cs st) (An st) dV kV doc pm an cdv ct):=⟨⟨oc,od,dV,kV,doc,pm,an,cdv,ct,osl,rfl,l,c⟩,k⟩
end
theorem V5 {K K':zAb} {a:Addr} {xs:List V} {i1 i2:Nat} {tb:TS} {D:Mc} {σ:St} {H:Hp} (Pv:Nat->St->Hp->Prop) (h0:Pv 0 σ H) (hl:∀ i σ H,i<=xs.length->Pv i σ H->SqL K H a xs)
  (hs:∀ i x σ H t,xs[i]?=some x->Pv i σ H->H t=none->tb { D with nx:=Pv (i+1),ct:=Pv (i+1),bk:=D.nx } ((σ.set i1 (some (.int i))).set i2 (some x)) (upd H t (.tup [.int i,x]))) (hd:∀ σ H,Pv xs.length σ H->D.nx σ H) :
  ∃ W:Nat->Nat->St->Hp->Prop,(∃ m,W 0 m σ H)/\∀ i m σ H,W i m σ H ->
   ((FO K a).stop i H/\D.nx σ H)\/((FO K a).go i H/\∃ N:St->Hp->Prop,(∀ σ' H',N σ' H'->∃ m',m'<m/\W (i+1) m' σ' H')/\∀ x H',(FO K a).yld i H x H'->Z7 K' 2 (Vq (Dw i1) (Vq (Dw i2) CT)) x σ H' fun σ2 H2=>tb { D with nx:=N,ct:=N,bk:=D.nx } σ2 H2):=by
 refine⟨fun i m σ H=>m=xs.length-i/\i<=xs.length/\Pv i σ H,⟨xs.length,by simp,zAC _,h0⟩,?_⟩;rintro i m σ H ⟨rfl,hi,p⟩;have q:=hl i σ H hi p;by_cases hlt:i<xs.length
 ·refine .inr ⟨⟨xs,xs[i],q,by simp [hlt]⟩,Pv (i+1),fun σ' H' p'=>⟨xs.length-(i+1),by omega,rfl,hlt,p'⟩,fun x H' y=>?_⟩
  obtain⟨t,z,ex,ht,hz,e3⟩:=y;subst ex e3;exact⟨t,_,rfl,SqT.of Ab,rfl,_,_,rfl,_,_,rfl,rfl,hs i z σ H t (hz xs q) p ht⟩
 ·obtain rfl:i=xs.length:=by omega
  exact .inl ⟨⟨xs,q,zAg _⟩,hd σ H p⟩
structure Zp (z u o i j:Addr):Prop where
 uz:u≠z
 oz:o≠z
 iz:i≠z
 jz:j≠z
 uo:u≠o
 ui:u≠i
 uj:u≠j
 oi:o≠i
 oj:o≠j
 ij:i≠j
theorem CD (n:Nat):Zp (n+4) (n+2) (n+3) n (n+1):=
 ⟨zAs (by lia),zAs (by lia),zAs (by lia),zAs (by lia),zAs (by lia),zAG (by lia),zAG (by lia),zAG (by lia),zAG (by lia),zAs (by lia)⟩
def FK (a b z u o i j:Addr) (k:Nat) (h:Heap):Prop:=IsZip h z u o .none/\IsPair h u (.ref i) (.ref j)/\(∃ x y,IsPair h o x y)/\h.IsListIter i a k/\h.IsListIter j b k
theorem F9 {a b z u o i j:Addr} {k:Nat} {h:Heap} {xs ys:Array Value} (D:Zp z u o i j) (st:FK a b z u o i j k h) (ha:h.IsList a xs) (hb:h.IsList b ys):ZipApart z u o i j a b:=by
 obtain⟨hz,hu,⟨x,y,ho⟩,⟨oi,ei,ci,_⟩,⟨oj,ej,cj,_⟩⟩:=st;have ne:∀ {c d:Addr} {p q:Obj} {zs:Array Value},h.IsList c zs->h.get? d=some q->q.cls ≠ .type "list" -> c≠d:=fun {c d p q zs} hl hd hn e=>by
  obtain⟨p',hp,hc,_⟩:=hl;rw[e,hd] at hp;cases hp;exact hn hc
 have nz:(Value.type "zip") ≠ .type "list" := by ac_nf
 have nt:(Value.type "tuple") ≠ .type "list" := by ac_nf
 have ni:(Value.type "list_iterator") ≠ .type "list" := by ac_nf
 have hci:oi.cls ≠ .type "list" := by rw[ci]; exact ni
 have hcj:oj.cls ≠ .type "list" := by rw[cj]; exact ni
 constructor <;> first
  | exact D.uz | exact D.oz | exact D.iz | exact D.jz | exact D.uo | exact D.ui | exact D.uj | exact D.oi | exact D.oj | exact D.ij
  | exact ne (p:=oi) ha hz nz | exact ne (p:=oi) hb hz nz | exact ne (p:=oi) ha ho nt | exact ne (p:=oi) hb ho nt | exact ne (p:=oi) ha hu nt | exact ne (p:=oi) hb hu nt
  | exact ne (p:=oi) ha ei hci | exact ne (p:=oi) hb ei hci | exact ne (p:=oi) ha ej hcj | exact ne (p:=oi) hb ej hcj
theorem C9 (l:List Nat):∀ n:Nat,(zAD n l.toArray).foldl (· ++ ·) #[]=((zAD n l).flatten).toArray:=fun n=>by
 have go:∀ (n:Nat) (a:List Nat),(zAD n l.toArray).foldl (· ++ ·) a.toArray=(a++(zAD n l).flatten).toArray:=fun n=>by
  induction n with
  | zero=>intro a; simp
  | succ n ih=>
   intro a;rw[zBP,List.foldl_cons,zBP,zBi,<- zBM];have e:a.toArray++l.toArray=(a++l).toArray:=by simp
   rw[e];exact ih (a++l)
 have z:=go n []
 simpa using z
theorem Rb {X:Cx}:Ir X (binaryOp .Mult) (fun x y H Q=>∃ (l:List Nat) (n:Int),x = .str (tx l)/\y = .int n/\1<=n/\n<=1000/\l.length<=1000/\Q (.str (tx (zAD n.toNat l).flatten)) H):=by
 intro pins s σ H x y v u Q I rx ry h;obtain⟨l,n,rfl,rfl,h1,h2,h3,q⟩:=h;obtain⟨t,rfl⟩:=rx;obtain⟨t',rfl⟩:=ry;have hl:(tx l).length=l.length:=Ij l;have small:l.length*n.toNat<=1000*1000:=zBv h3 (by lia);refine PySem.P.mul_str ?_ (fun _ _=>?_) (fun _ _=>?_) ?_
 ·rw[decide_eq_false (by lia),decide_eq_false (by lia)]; rfl
 ·rw[hl]
  have:(1000:Int)<=(2^63-1)/n:=Int.le_ediv_of_mul_le (by lia) (by lia)
  lia
 ·rw[hl]
  unfold Builtin.Str.tooLong;simp only [decide_eq_false_iff_not];have:=zCr
  lia
 ·rw[if_neg (by lia)]
  by_cases c:(n==1||(tx l).length==0)=true
  ·rw[if_pos c]
   refine⟨.str (tx (zAD n.toNat l).flatten),H,I,⟨t,?_⟩,q⟩;have e:(zAD n.toNat l).flatten=l:=by
    rcases (Bool.or_eq_true _ _).mp c with z | z
    ·have z':n=1:=by simpa using z
     subst z';simp
    ·have z':l=[]:=by
      rw[hl] at z;exact List.eq_nil_of_length_eq_zero (by simpa using z)
     subst z';simp
   rw[e]
  ·rw[if_neg c]
   refine⟨?_,.str (tx (zAD n.toNat l).flatten),H,I.tok _,⟨s.toks,?_⟩,q⟩
   ·have e:=C9 l n.toNat
    show (⟨(zAD n.toNat (tx l).cps).foldl (· ++ ·) #[]⟩:Str).length<=sizeLine;unfold tx;rw[e];have e2:(⟨((zAD n.toNat l).flatten).toArray⟩:Str)=tx (zAD n.toNat l).flatten:=rfl;rw[e2,Ij,Y5,zCr,Nat.mul_comm]
    lia
   ·show Value.str ⟨(zAD n.toNat (tx l).cps).foldl (· ++ ·) #[]⟩ _=Value.str (tx _) _
    have e:=C9 l n.toNat;unfold tx at *;rw[e]
section
variable {prog:Program} {w:World} {A:Around} {E:Value->Shared->Prop} {s:Shared}
end
section
variable {X:Cx} {pins:List (Addr×Obj)} {σ:St} {H:Hp} {s:Shared}
end
section
variable {P:Program} {w:World} {K:zAb} {mg:Str->Option Value} {base:Heap} {N ps:List Str} {qual:Str} {scope:Scope} {f:Addr} {cd:Value} {A:Around} {outer:List Env} {s0:Shared} {H0:Hp} {E:XK} {k:Nat} {sp:Sp} {x:Str} {st:Stmt} {fd:zCt}
end
section
variable {X:Cx} {k:Nat} {f:Addr} {fd:zCt} {ps:List Str} {sp:Sp} {x:Str} {p pos:Pos} {e:Expr} {es:List Expr} {t:TA} {W:St->XK}
end
section
variable {prog:Program} {w:World} {A:Around} {E:Value->Shared->Prop} {env:Env}
variable {nm q:Str} {C N:Addr} {bs bm bmB:List Value} {hdct:Bool} {sn:List Str} {sub:List Value} {ab:Bool} {col:Option Bool} {dd:Option Addr} {k0 k1 k2 k3 k5:Option Value} {B newId initId:String}
end
section
variable {X:Cx} {x n:Str} {Ch:Addr} {i:Nat} {body suite:List Stmt} {b₀ : Stmt} {tb:(St->XK)->TS} {ts:TS} {np hpos pos:Pos} {pins:List (Addr×Obj)} {σ:St} {H:Hp} {s:Shared} {e:Addr} {oe:Obj}
end
end L2
namespace L2
open PySem PySem.Spec PyProof.Rows PySem.W
section
variable {X:Cx} {pins:List (Addr×Obj)} {σ:St} {H H':Hp} {s:Shared}
theorem Inv.trackN {a:Addr} {o:HO} (I:Inv X pins σ H s) (fp:Jx X pins H a) (new:ObjOk X.prog X.w (upd H a o) s.heap a o):Inv X pins σ (upd H a o) s:=by
 obtain⟨hn,hL,_,h1,h2,h3⟩:=fp;have na:∀ b u,H b=some u->b≠a:=fun b u e z=>by rw[z,hn] at e; cases e
 refine I.step (h':=s.heap) (g':=s.gens) (d':=s.drawn) (t':=s.toks) (ch:=[a]) (fun b hb=>?_) (fun b o _ _ _ e _=>e) (fun b o _ _ _ e _=>⟨o.slots,e⟩) (fun b o hc e n=>?_) (fun b o _ e=>⟨o,e⟩)
  (fun b xs e=>by rw[Ar (na _ _ e)]; exact e) (fun b ob u e=>by rw[Ar (na _ _ e)]; exact e) (fun b ps e=>⟨#[],by rw[Ar (na _ _ e),e]; simp⟩) (fun m hm=>hm) (fun b u e=>?_) I.bare
 ·have e:b=a:=by simpa using hb
  subst e;exact⟨h1,hL,h2,h3⟩
 ·rw[Ar (fun z=>hc (by simp [z]))]
  exact n
 ·by_cases hb:b=a
  ·subst hb
   rw[Ab] at e;cases e;exact new
  ·rw[Ar hb] at e
   exact (I.hok b u e).stay (fun _ _ _ q=>q) (fun c q=>by rw[Ar (na _ _ q)]; exact q) fun c xs q=>by rw[Ar (na _ _ q)]; exact q
end
section
variable {X:Cx} {pins:List (Addr×Obj)} {σ:St} {H:Hp} {s:Shared}
end
section
variable {prog:Program} {w:World} {A:Around} {E:Value->Shared->Prop} {s:Shared}
end
section
variable {X:Cx} {pins:List (Addr×Obj)} {σ:St} {H:Hp} {s:Shared}
end
section
variable {X:Cx}
end
end L2
namespace CRL
open PySem L2
end CRL
namespace L2
open PySem PySem.Spec PyProof.Rows PySem.W
section
variable {P:Program} {w:World} {K:zAb} {mg:Str->Option Value} {base:Heap} {k:Nat} {f:Addr} {fd:zCt} {ps:List Str} {sp sp1 sp2:Sp}
end
section
variable {X:Cx} {k:Nat} {f C:Addr} {fd:zCt} {ps:List Str} {sp:Sp} {x:Str} {p pos:Pos} {e:Expr} {es:List Expr} {t:TA} {W:St->XK} {dvs:List V} {ds:List Value}
end
end L2
namespace CST
open PySem
abbrev Rs (xs:Array Nat):Prop:=xs.toList.Pairwise (· < ·)
theorem D1 {xs:Array Nat} (h:Rs xs) {i k:Nat} (hik:i<k) (hk:k<xs.size):xs[i]'(by lia)<xs[k]:=by
 have:=zBN.mp h i k (by simpa using (by lia:i<xs.size)) (by simpa using hk) hik
 simpa using this
structure HS (xs:Array Nat) (j p:Nat):Prop where
 le:p<=xs.size
 lo:∀ i (h:i<xs.size),i<p->xs[i]<j
 hi:∀ i (h:i<xs.size),p<=i->j<=xs[i]
theorem Qt {xs:Array Nat} {j:Nat} (r:Rs xs):∀ (f lo hi:Nat),hi-lo<=f->lo<=hi->hi<=xs.size->(∀ i (h:i<xs.size),i<lo->xs[i]<j)->(∀ i (h:i<xs.size),hi<=i->j<=xs[i])->HS xs j (SetTable.below.go xs j f lo hi)
 | 0,lo,hi,h0,h1,h2,a,b=>by
  have e:lo=hi:=by omega
  subst e;unfold SetTable.below.go;exact⟨h2,a,b⟩
 | f+1,lo,hi,h0,h1,h2,a,b=>by
  unfold SetTable.below.go;by_cases c:lo<hi
  ·rw[if_pos c]
   have hm:(lo+hi)/2<xs.size:=by omega
   have e:xs.getD ((lo+hi)/2) j=xs[(lo+hi)/2]:=by simp [Array.getD,hm]
   dsimp only
   rw[e];by_cases d:xs[(lo+hi)/2]<j
   ·rw[if_pos d]
    refine Qt r f _ hi (by omega) (by omega) h2 (fun i h hi'=>?_) b;by_cases q:i=(lo+hi)/2
    ·subst q; exact d
    ·exact Nat.lt_trans (D1 r (by omega) hm) d
   ·rw[if_neg d]
    refine Qt r f lo _ (by omega) (by omega) (by omega) a (fun i h hi'=>?_);by_cases q:i=(lo+hi)/2
    ·subst q; omega
    ·have:=D1 r (i:=(lo+hi)/2) (k:=i) (by omega) h
     omega
  ·rw[if_neg c]
   have e:lo=hi:=by omega
   subst e;exact⟨h2,a,b⟩
theorem Qs {xs:Array Nat} {j:Nat} (r:Rs xs):HS xs j (SetTable.below xs j):=by
 unfold SetTable.below;exact Qt r _ _ _ (by lia) (zAC _) (zAg _) (fun i _ h=>absurd h (zBc _)) (fun i h h'=>absurd h' (by lia))
structure Jy (by_:Bool) (t:SetTable):Prop where
 rs:Rs t.place
 dm:t.dummies = #[]
 ld:by_=false->t.led=true
theorem Pt (b:Bool):Jy b (.fresh 0 0 (!b)):=⟨List.Pairwise.nil,rfl,fun h=>by rw[h]; rfl⟩
theorem Fs {b:Bool} {t:SetTable} (g:Jy b t) (n:Nat):Jy b (t.standIn n):=by
 refine⟨?_,rfl,g.ld⟩;show (Array.range n).toList.Pairwise (· < ·);rw[Array.toList_range];exact List.pairwise_lt_range
theorem Ze {b:Bool} {t:SetTable} (g:Jy b t) (p:Bool):Jy b { t with plain:=p }:=⟨g.rs,g.dm,g.ld⟩
theorem Vl (j:Nat):SetTable.has #[] j=false:=by
 unfold SetTable.has;have:(#[]:Array Nat)[SetTable.below #[] j]?=none:=by simp
 rw[this];rfl
theorem Zg {t:SetTable} {j:Nat} (dm:t.dummies = #[]):t.slot j = .empty\/∃ i,t.slot j = .live i:=by
 unfold SetTable.slot
 dsimp only
 by_cases c:(t.place[SetTable.below t.place j]?==some j)=true
 ·rw[if_pos c]; exact .inr ⟨_,rfl⟩
 ·rw[if_neg c,dm,Vl]
  exact .inl rfl
theorem Yc {t:SetTable} {j:Nat} (r:Rs t.place) (h:t.slot j = .empty):∀ i (hi:i<t.place.size),t.place[i]≠j:=fun i hi e=>by
 have b:=Qs (j:=j) r;have hp:SetTable.below t.place j<=i:=by
  rcases zBJ i (SetTable.below t.place j) with z | z
  ·have:=b.lo i hi z; lia
  ·exact z
 have hps:SetTable.below t.place j<t.place.size:=by lia
 have e2:t.place[SetTable.below t.place j]=j:=by
  have h1:=b.hi _ hps (zAg _);rcases Nat.lt_or_eq_of_le hp with z | z
  ·have:=D1 r z hi; lia
  ·have:t.place[SetTable.below t.place j]=t.place[i]:=by congr 1
   lia
 unfold SetTable.slot at h
 dsimp only at h
 have c:(t.place[SetTable.below t.place j]?==some j)=true:=by
  rw[zAK hps,e2];simp
 rw[if_pos c] at h;cases h
theorem Vt {t:SetTable} {ha:Nat->Int} {h:Int} (dm:t.dummies = #[]):∀ (f:Nat) (p:SetTable.Probe) (j:Nat) (d:Option Nat),p.dummy=none->SetTable.probe.go t ha h f p=some (.empty j d)->d=none/\t.slot j = .empty
 | 0,p,j,d,_,e=>by unfold SetTable.probe.go at e; cases e
 | f+1,p,j,d,hp,e=>by
  unfold SetTable.probe.go at e;have adv:(t.advance p).dummy=none:=by
   unfold SetTable.advance
   split
   ·exact hp
   ·exact hp
  rcases Zg (t:=t) (j:=p.j) dm with z | ⟨i,z⟩
  ·rw[z] at e
   dsimp only at e
   injection e with e;injection e with e1 e2;subst e1;exact⟨e2▸hp,z⟩
  ·rw[z] at e
   dsimp only at e
   split at e
   ·injection e with e; cases e
   ·exact Vt dm f _ j d adv e
theorem CP {t:SetTable} {j:Nat} (r:Rs t.place) (h:∀ i (hi:i<t.place.size),t.place[i]≠j):Rs (t.put j).1.place:=by
 have b:=Qs (j:=j) r;show (SetTable.insertAt t.place (SetTable.below t.place j) j).toList.Pairwise (· < ·);rw[SetTable.toList_insertAt];have e1:∀ x∈t.place.toList.take (SetTable.below t.place j),x<j:=fun x hx=>by
  obtain⟨i,hi,ei⟩:=zBh hx;rw[List.getElem_take] at ei;have hi':i<SetTable.below t.place j/\i<t.place.size:=by
   rw[zAB,zAx] at hi; lia
  have:=b.lo i hi'.2 hi'.1;rw[<- ei]
  simpa using this
 have e2:∀ x∈t.place.toList.drop (SetTable.below t.place j),j<x:=fun x hx=>by
  obtain⟨i,hi,ei⟩:=zBh hx;rw[List.getElem_drop] at ei;have hi':SetTable.below t.place j+i<t.place.size:=by
   rw[zCm,zAx] at hi; lia
  have h1:=b.hi _ hi' (zBV _ _);have h2:=h _ hi';rw[<- ei];have:j<t.place[SetTable.below t.place j+i]:=by lia
  simpa using this
 refine List.pairwise_append.mpr ⟨r.sublist (List.take_sublist _ _),zBs.mpr ⟨e2,r.sublist (List.drop_sublist _ _)⟩,fun a ha b' hb=>?_⟩;rcases zAq.mp hb with z | z
 ·rw[z]; exact e1 a ha
 ·exact Nat.lt_trans (e1 a ha) (e2 b' z)
theorem Wv {b:Bool} {t:SetTable} {j:Nat} (g:Jy b t) (h:t.slot j = .empty):Jy b (t.put j).1:=by
 refine⟨CP g.rs (Yc g.rs h),?_,g.ld⟩;show (if SetTable.has t.dummies j then _ else t.dummies) = #[];rw[g.dm,Vl];rfl
set_option tactic.hygienic true in
theorem Vo {b:Bool} {t:SetTable} (g:Jy b t) (es:Array (Int×Value)) (h:Int) (x:Value):Jy b (layNew t es h x).2.1/\(layNew t es h x).2.2.1=false:=by
 unfold layNew;cases e:t.freeSlot h with
 | none=>exact⟨Fs g _,rfl⟩
 | some p=>
  obtain⟨sl,wd⟩:=p;unfold SetTable.freeSlot at e
  split at e
  ·rename_i j d hp
   injection e with e;injection e with e1 e2;obtain⟨hd,hs⟩:=Vt g.dm _ _ j d rfl hp;subst hd
   dsimp only at e1 e2 ⊢
   have e1':j=sl:=e1;subst e1';refine⟨?_,e2.symm⟩;unfold SetTable.orStandIn
   split
   ·exact Wv g hs
   ·exact Fs (Wv g hs) _
  ·cases e
theorem Qm (o:Nat->Option Nat):∀ l:List Nat,((l.filterMap fun j=>(o j).map (j,·)).map (·.1)).Sublist l
 | []=>List.Sublist.slnil
 | j::l=>by
  rw[zBY];cases e:o j with
  | none=>exact (Qm o l).cons j
  | some k=>exact (Qm o l).cons₂ j
theorem Rt {b:Bool} {t:SetTable} (g:Jy b t) (es:Array (Int×Value)) (wanted:Nat):Jy b (relayAll t es wanted).2.1:=by
 unfold relayAll;cases e:t.relaid (es.map (·.1)) wanted with
 | none=>exact Fs g _
 | some p=>
  obtain⟨t',order⟩:=p
  dsimp only
  split
  ·unfold SetTable.relaid SetTable.laid at e
   cases e2:SetTable.layClean (SetTable.sizeAbove wanted-1) (es.map (·.1)) with
   | none=>rw[e2] at e; cases e
   | some owner=>
    rw[e2] at e;have e3:=Option.some.inj e;injection e3 with e4 _;subst e4;refine⟨?_,rfl,g.ld⟩;show (List.toArray _).toList.Pairwise (· < ·);rw[List.toList_toArray];exact List.pairwise_lt_range.sublist (Qm _ _)
  ·exact Fs g _
section
variable {prog:Program} {w:World} {K:Type} [DecidableEq K] (knd:KeyKind prog w K)
def AW (e:Int×Value) (k:K):Prop:=knd.is k e.2=true/\e.1=knd.hash k/\e.2.scannable=true
def GSet (h:Heap) (a:Addr) (ks:List K):Prop:=∃ o es ep t,h.get? a=some o/\o.ExactSet/\o.data = .set es ep t/\Paired (AW knd) es.toList ks/\ks.Nodup/\es.size<scanBound/\t.fits es.size=true/\Jy (w.params.followText "set-order") t
variable {knd}
variable {A:Around} {E:Value->Shared->Prop} {s:Shared}
theorem Nv {α β:Type} {F:α->β->Prop}:∀ {l l':List α} {ks:List β},l'.Perm l->Paired F l ks->∃ ks',ks'.Perm ks/\Paired F l' ks':=by
 intro l l' ks p;have q:=p.symm;clear p
 induction q generalizing ks with
 | nil=>intro h; exact⟨ks,List.Perm.refl _,h⟩
 | cons x _ ih=>
  intro h;cases h with
  | cons r t=>
   obtain⟨ks',p',h'⟩:=ih t;exact⟨_,p'.cons _,.cons r h'⟩
 | swap x y l=>
  intro h;cases h with
  | cons r t=>
   cases t with
   | cons r2 t2=>exact⟨_,List.Perm.swap _ _ _,.cons r2 (.cons r t2)⟩
 | trans _ _ ih1 ih2=>
  intro h;obtain⟨k1,p1,h1⟩:=ih1 h;obtain⟨k2,p2,h2⟩:=ih2 h1;exact⟨k2,p2.trans p1,h2⟩
theorem Nx {α β:Type} {F:α->β->Prop} {a:α} {b:β} (r:F a b):∀ {l:List α} {ks:List β},Paired F l ks->Paired F (l++[a]) (ks++[b])
 | _,_,.nil=>.cons r .nil
 | _,_,.cons q t=>.cons q (Nx r t)
theorem Ku {α β:Type} {F:α->β->Prop}:∀ {l:List α} {ks:List β},Paired F l ks->∀ a∈l,∃ b∈ks,F a b
 | _,_,.nil,_,h=>nomatch h
 | _,_,.cons q t,a,h=>by
  rcases zAq.mp h with z | z
  ·subst z; exact⟨_,zAo,q⟩
  ·obtain⟨b,hb,r⟩:=Ku t a z
   exact⟨b,zAm _ hb,r⟩
theorem Nz {α β:Type} {F:α->β->Prop}:∀ {l:List α} {ks:List β},Paired F l ks->∀ b∈ks,∃ a∈l,F a b
 | _,_,.nil,_,h=>nomatch h
 | _,_,.cons q t,a,h=>by
  rcases zAq.mp h with z | z
  ·subst z; exact⟨_,zAo,q⟩
  ·obtain⟨b,hb,r⟩:=Nz t a z
   exact⟨b,zAm _ hb,r⟩
theorem EZ {l:List (Int×Value)} {ks:List K} (h:Paired (AW knd) l ks):ElemsOf knd l:=fun e he=>by
 obtain⟨k,_,r1,r2,r3⟩:=Ku h e he;exact⟨⟨k,r1,r2⟩,r3⟩
theorem Vh {l:List (Int×Value)} {ks:List K} {k:K} (h:Paired (AW knd) l ks):(l.findIdx? fun e=>knd.is k e.2)=none↔k∉ks:=by
 rw[List.findIdx?_eq_none_iff];constructor
 ·intro z hk
  obtain⟨e,he,r⟩:=Nz h k hk;have:=z e he;rw[r.1] at this;cases this
 ·intro z e he
  obtain⟨k',hk',r⟩:=Ku h e he;cases c:knd.is k e.2 with
  | false=>rfl
  | true=>exact absurd (knd.inj _ _ _ c r.1▸hk') z
theorem stored {h:Heap} {a:Addr} {o:Obj} {es es':Array (Int×Value)} {ep:Nat} {t t':SetTable} {ks:List K} (ho:h.get? a=some o) (hex:o.ExactSet) (hd:o.data = .set es ep t) (hp:Paired (AW knd) es'.toList ks) (nd:ks.Nodup) (hb:es'.size<scanBound) (hf:t'.fits es'.size=true)
  (g:Jy (w.params.followText "set-order") t'):(h.update a (Obj.putSet es' t')).get? a=some { o with data:=.set es' (ep+1) t' }/\GSet knd (h.update a (Obj.putSet es' t')) a ks:=by
 have hg:(h.update a (Obj.putSet es' t')).get? a=some { o with data:=.set es' (ep+1) t' }:=by
  have q:=zBj (Obj.putSet es' t') ho (by rw[putSet_of es' t' hd]; rfl)
  rwa [putSet_of es' t' hd] at q
 exact⟨hg,_,es',ep+1,t',hg,hex,rfl,hp,nd,hb,hf,g⟩
theorem Xg {a:Addr} {o:Obj} {es es1:Array (Int×Value)} {ep:Nat} {t t2:SetTable} {ks1:List K} (ho:s.heap.get? a=some o) (hex:o.ExactSet) (hd:o.data = .set es ep t) (hp:Paired (AW knd) es1.toList ks1) (nd:ks1.Nodup) (hb:es1.size<scanBound) (hf:t2.fits es1.size=true)
  (g:Jy (w.params.followText "set-order") t2) {wd:Bool} {gw:Bool->Sem Unit} (hgw:∀ (b:Bool) (s₁ : Shared) (Q':Unit->Shared->Prop),Q' () s₁ -> wpAny (model prog w) A (gw b) Q' E s₁) {R:Option Bool->Shared->Prop}
  (h:∀ h' ks',zBm a s.heap h'->GSet knd h' a ks'->ks'.Perm ks1->R (some true) { s with heap:=h' }) :
  wpAny (model prog w) A (do
   storeSet a es1 t2
   if (!wd&&t2.tooFull)=true then do
    gw (relayAll t2 es1 (SetTable.grown es1.size)).2.2
    storeSet a (relayAll t2 es1 (SetTable.grown es1.size)).1 (relayAll t2 es1 (SetTable.grown es1.size)).2.1
    pure (some true)
   else pure (some true)) R E s:=by
 obtain⟨ho1,G1⟩:=stored (knd:=knd) ho hex hd hp nd hb hf g;have sb:=zBm.update s.heap a (Obj.putSet es1 t2);refine zCp (wpAny_storeSet_of ho hd ?_ (fits_of_scanBound hb));by_cases c:(!wd&&t2.tooFull)=true
 ·rw[if_pos c]
  have p2:=relayAll_perm t2 es1 (SetTable.grown es1.size);have f2:=relayAll_fits t2 es1 (SetTable.grown es1.size);have g2:=Rt g es1 (SetTable.grown es1.size);generalize relayAll t2 es1 (SetTable.grown es1.size)=Y at p2 f2 g2;obtain⟨es2,t3,gv⟩:=Y
  dsimp only at p2 f2 g2
  have z2:es2.size=es1.size:=by rw[<- zAx,p2.length_eq,zAx]
  obtain⟨ks2,q2,hp2⟩:=Nv p2 hp;refine zCp (hgw _ _ _ (zCp (wpAny_storeSet_of ho1 rfl ?_ (fits_of_scanBound (by rw[z2]; exact hb)))));obtain⟨_,G2⟩:=stored (knd:=knd) ho1 hex rfl hp2 (q2.nodup_iff.mpr nd) (by rw[z2]; exact hb) f2 g2;exact zCq (h _ ks2 (sb.trans (zBm.update _ a _)) G2 q2)
 ·rw[if_neg c]
  exact zCq (h _ ks1 sb G1 (List.Perm.refl _))
theorem BR {a:Addr} {ks:List K} {k:K} {x:Value} {Q:Bool->Shared->Prop} (hkey:knd.is k x=true) (hsc:x.scannable=true) (hS:GSet knd s.heap a ks) (hroom:ks.length+1<scanBound)
  (h:∀ b h' ks',zBm a s.heap h'->GSet knd h' a ks'->ks'.Perm (if k∈ks then ks else ks++[k])->Q b { s with heap:=h' }) :
  wpAny (model prog w) A (setAddHashed a x (knd.hash k)) Q E s:=by
 obtain⟨o,es,ep,t,ho,hex,hd,hp,nd,hb,hf,g⟩:=id hS;have hel:=EZ hp;have lk:es.size=ks.length:=by rw[<- zAx]; exact Paired.length hp
 unfold setAddHashed setAddHashedIn;refine wpAny_holding (zCp (wpAny_setState_of ho hd hf ?_))
 dsimp only
 rw[byScan_of hsc hb hel];simp only [↓reduceIte];unfold setAddByScan;refine zCp (zCp (wpAny_rule (zCp (wpAny_setScan_of hkey ho hd hf hel ?_))));cases hr:List.findIdx? (fun e=>knd.is k e.2) es.toList with
 | some j=>
  have hk:k∈ks:=Classical.byContradiction fun z=>by rw[(Vh hp).mpr z] at hr; cases hr
  dsimp only
  refine zCq (zCq ?_);have e:s={ s with heap:=s.heap }:=by cases s; rfl
  rw[e];exact h false s.heap ks (zBm.refl a s.heap) hS (by rw[if_pos hk])
 | none=>
  have hk:k∉ks:=(Vh hp).mp hr
  dsimp only
  have p1:=layNew_perm t es (knd.hash k) x;have f1:=layNew_fits t es (knd.hash k) x;have g1:=(Vo g es (knd.hash k) x).1;generalize layNew t es (knd.hash k) x=Y at p1 f1 g1 ⊢;obtain⟨es1,t1,wd,gv⟩:=Y
  dsimp only at p1 f1 g1 ⊢
  rw[Array.toList_push] at p1;obtain⟨ks1,q1,hp1⟩:=Nv p1 (Nx (show AW knd (knd.hash k,x) k from ⟨hkey,rfl,hsc⟩) hp);have nd1:ks1.Nodup:=q1.nodup_iff.mpr (List.nodup_append.mpr ⟨nd,by simp,fun a ha b hb'=>by rw[zAk] at hb'; subst hb'; rintro rfl; exact hk ha⟩);have b1:es1.size<scanBound:=by rw[<- zAx,p1.length_eq,zAe,zAx,lk]; exact hroom
  have fin:∀ h' ks',zBm a s.heap h'->GSet knd h' a ks'->ks'.Perm ks1->Q true { s with heap:=h' }:=fun h' ks' sb G p=>h true h' ks' sb G (by rw[if_neg hk]; exact p.trans q1);have gw:∀ (b:Bool) (s₁ : Shared) (Q':Unit->Shared->Prop),Q' () s₁ -> wpAny (model prog w) A (match b with | true=>rule "set.scan.the-table-gave-way" | false=>pure ()) Q' E s₁ :=
   fun b s₁ Q' hq=>by cases b <;> first | exact zCq hq | exact wpAny_rule hq
  refine zCp (gw _ _ _ ?_)
  split
  ·refine zCp ?_
   rw[hashByValue_scannable 8 hsc];refine zCq ?_;refine Xg (ks1:=ks1) (knd:=knd) ho hex hd hp1 nd1 b1 ?_ ?_ gw fun h' ks' sb G p=>?_
   ·split
    ·exact f1
    ·exact SetTable.fits_plain_off f1
   ·split
    ·exact g1
    ·exact Ze g1 _
   ·exact zCq (fin h' ks' sb G p)
  ·refine zCp (zCq ?_)
   simp only [↓reduceIte];exact Xg (ks1:=ks1) (knd:=knd) ho hex hd hp1 nd1 b1 f1 g1 gw fun h' ks' sb G p=>zCq (fin h' ks' sb G p)
end
theorem slot_sin:Slot "set_iterator" "__next__" "set_iterator.__next__" :=
 .of (owner := "set_iterator") (n := "__next__") (by rw[typeLookup_type,builtinLookup_eq_fast]; kernel_rfl) (by ac_nf) (by ac_nf) (by ac_nf) (by first | exact .inl (by ac_nf) | exact .inr (by ac_nf)) (by rw[isSubtype_type]; kernel_rfl)
theorem Jo:entryFor table "set_iterator.__next__" = some Builtin.«set_iterator.__next__» := entryFor_of_fast (by kernel_rfl)
theorem Ls (a:Value):argsOk "set_iterator.__next__" ⟨[a],[]⟩:=by unfold argsOk; kernel_rfl
theorem Wc:Slot "set_iterator" "__iter__" "set_iterator.__iter__" :=
 .of (owner := "set_iterator") (n := "__iter__") (by rw[typeLookup_type,builtinLookup_eq_fast]; kernel_rfl) (by ac_nf) (by ac_nf) (by ac_nf) (by first | exact .inl (by ac_nf) | exact .inr (by ac_nf)) (by rw[isSubtype_type]; kernel_rfl)
theorem Q3 (a:Value):argsOk "set_iterator.__iter__" ⟨[a],[]⟩:=by unfold argsOk; kernel_rfl
theorem L8:entryFor table "set_iterator.__iter__" = some Builtin.«dict_keyiterator.__iter__» :=
 entryFor_alias (id' := "dict_keyiterator.__iter__") (by kernel_rfl) rfl (by ac_nf) (by kernel_rfl)
theorem P1:entryFor table "set.__iter__" = some Builtin.«frozenset.__iter__» :=
 entryFor_alias (id' := "frozenset.__iter__") (by kernel_rfl) rfl (by ac_nf) (by kernel_rfl)
def Yq (h:Heap) (I:Addr) (first:Value) (i:Nat) (a:Addr) (n ep:Nat):Prop:=h.get? I=some { cls:=.type "set_iterator",dict:=none,data:=.fields #[first,rawInt i,.ref a,rawInt n,rawInt ep],slots := #[] }
section
variable {prog:Program} {w:World} {A:Around} {E:Value->Shared->Prop} {s:Shared} {I a:Addr} {i n ep slot nx:Nat} {x:Value} {o:Obj} {es:Array (Int×Value)} {t:SetTable} {Q:Option Value->Shared->Prop}
theorem Vp (hit:Yq s.heap I (rawInt slot) i a n ep) (ho:s.heap.get? a=some o) (hd:o.data = .set es ep t) (hf:t.fits es.size=true) (hn:es.size=n)
  (hx:∀ (A':Around) (Q':Option (Value×Nat)->Shared->Prop) (E':Value->Shared->Prop),Q' (some (x,nx)) s->wpAny (model prog w) A' (setNext a slot i ep) Q' E' s)
  (h:∀ h',Yq h' I (rawInt nx) (i+1) a n ep->zBm I s.heap h'->Q (some x) { s with heap:=h' }):wpAny (model prog w) A (pyNext (.ref I)) Q E s:=by
 have ty:s.TypeIs (.ref I) "set_iterator" := ⟨_,hit,rfl⟩;unfold pyNext;refine zCp (wpAny_attempt (wpAny_callSpecial?_slot (name:=Str.ofString "__next__") ty slot_sin (wpAny_call_entry slot_sin ty Jo ?_ (Ls _))));unfold Builtin.«set_iterator.__next__»;refine zCp (m:=slotArgs "__next__" 0 _) (zCq (zCp (wpAny_fieldsOf hit rfl ?_)))
 dsimp only [rawInt]
 refine zCp (wpAny_setEntries_of ho hd hf ?_);rw[hn];rw[if_neg (by simp)];refine zCp (hx _ _ _ ?_)
 dsimp only
 refine zCp (wpAny_setField_rec hit (by simp) fun h1 e1 sb1=>?_);refine zCp (wpAny_setField_rec e1 (by simp) fun h2 e2 sb2=>?_);refine zCq ⟨_,rfl,zCq (h h2 ?_ (sb1.trans sb2))⟩;unfold Yq;rw[e2];simp [rawInt]
end
theorem Kv {α:Type}:∀ {l:List α} {i:Nat} (h:i<l.length),(l[i]::l.eraseIdx i).Perm l
 | [],_,h=>absurd h (zBc _)
 | x::l,0,_=>List.Perm.refl _
 | x::l,i+1,h=>(List.Perm.swap x _ _).trans ((Kv (l:=l) (i:=i) (by simpa using h)).cons x)
theorem B4 {α:Type} (f:Nat->Nat):∀ (m k:Nat) (l:List α) (out:Array α),l.length=m->(pickOrder.go f m k l out).toList.Perm (out.toList++l)
 | 0,k,l,out,h=>by
  have e:l=[]:=List.length_eq_zero_iff.mp h;subst e;unfold pickOrder.go;rw[zAT]
 | m+1,k,l,out,h=>by
  have hl:f k%l.length<l.length:=Nat.mod_lt _ (by lia);unfold pickOrder.go;rw[zAf hl]
  dsimp only
  refine (B4 f m (k+1) _ _ (by rw[List.length_eraseIdx,if_pos hl]; lia)).trans ?_;rw[Array.toList_push,zBM];exact (Kv hl).append_left _
theorem Mm {α:Type} (f:Nat->Nat) (xs:Array α):(pickOrder f xs).toList.Perm xs.toList:=by
 unfold pickOrder;exact (B4 f xs.size 0 xs.toList #[] zAx).trans (by simp)
def Hu (p:Array Nat) (i:Nat):Nat:=if i=0 then 0 else p.getD (i-1) 0+1
theorem Qq {p:Array Nat} (r:Rs p) {i:Nat} (hi:i<=p.size):SetTable.below p (Hu p i)=i:=by
 have b:=Qs (j:=Hu p i) r;unfold Hu at b ⊢;by_cases c:i=0
 ·rw[if_pos c] at b ⊢
  rw[c];rcases Nat.eq_zero_or_pos (SetTable.below p 0) with z | z
  ·exact z
  ·have h0:0<p.size:=zAt z b.le
   exact absurd (b.lo 0 h0 z) (zBc _)
 ·rw[if_neg c] at b ⊢
  have hp:i-1<p.size:=by lia
  have e:p.getD (i-1) 0=p[i-1]:=by simp [Array.getD,hp]
  rw[e] at b ⊢;rcases Nat.lt_trichotomy (SetTable.below p (p[i-1]+1)) i with z | z | z
  ·have:=b.hi (i-1) hp (by lia)
   lia
  ·exact z
  ·have hs:i<p.size:=zAt z b.le
   have h1:=b.lo i hs z;have h2:=D1 r (i:=i-1) (k:=i) (by lia) hs
   lia
section
variable {prog:Program} {w:World} {A:Around} {E:Value->Shared->Prop} {s:Shared} {a:Addr} {o:Obj} {es:Array (Int×Value)} {ep:Nat} {t:SetTable}
theorem Pd {Q:Bool->Shared->Prop} (h:Q (w.params.followText "set-order") s):wpAny (model prog w) A setsByText Q E s:=by
 unfold setsByText;exact zCp (wpAny_askSetting (zCq h))
theorem Sg {slot i:Nat} {Q:Option (Value×Nat)->Shared->Prop} (bt:w.params.followText "set-order" = true) (ho:s.heap.get? a=some o) (hd:o.data = .set es ep t) (hf:t.fits es.size=true)
  (h:Q (((pickOrder (w.params.setOrder a ep) es)[i]?).map fun e=>(e.2,slot)) s):wpAny (model prog w) A (setNext a slot i ep) Q E s:=by
 unfold setNext;refine zCp (wpAny_setState_of ho hd hf ?_)
 dsimp only
 refine zCp (Pd ?_);rw[bt,if_pos rfl,if_neg (by simp)];refine zCp ?_;unfold setWalk;refine zCp (wpAny_setState_of ho hd hf ?_)
 dsimp only
 refine zCp (Pd ?_);rw[bt,if_pos rfl];exact zCp (wpAny_askSetting (zCq (zCq h)))
theorem Qe {slot i:Nat} {Q:Option (Value×Nat)->Shared->Prop} (bt:w.params.followText "set-order" = false) (ho:s.heap.get? a=some o) (hd:o.data = .set es ep t) (hf:t.fits es.size=true) (hl:t.led=true) (hp:(!t.plain&&decide (es.size>1))=false)
  (h:Q (match es[SetTable.below t.place slot]?,t.place[SetTable.below t.place slot]? with
   | some (_,x),some j=>some (x,j+1)
   | _,_=>none) s):wpAny (model prog w) A (setNext a slot i ep) Q E s:=by
 unfold setNext;refine zCp (wpAny_setState_of ho hd hf ?_)
 dsimp only
 refine zCp (Pd ?_);rw[bt,if_neg zAi];show wpAny _ _ (if (!t.plain&&decide (es.size>1))=true then _ else _) _ _ _;rw[hp,if_neg zAi];refine zCp ?_;show wpAny _ _ (if (!t.led && !es.isEmpty)=true then unsupported "set:maker-not-led" else pure ()) _ _ _;rw[hl,if_neg (by simp)];exact zCq (zCq h)
theorem Yh {place:Nat} {k:Int} {x:Value} {Q:Value->Shared->Prop} (ho:s.heap.get? a=some o) (hd:o.data = .set es ep t) (hf:t.fits es.size=true) (hx:es[place]?=some (k,x)) (h:Q x s):wpAny (model prog w) A (setNextDrawn a place ep) Q E s:=by
 unfold setNextDrawn;refine zCp (wpAny_setState_of ho hd hf ?_)
 dsimp only
 rw[if_neg (by simp),hx];exact zCq h
theorem Xr {src:Source} {n:Nat} {Q:Nat->Shared->Prop} (hn:n≠0) (h:∀ i,i<n->Q i { s with drawn:=s.drawn.bump src }):wpAny (model prog w) A (choose src n) Q E s:=fun _ _ _=>by
 unfold choose;rw[Sem.wp_choose];exact⟨hn,h _ (Nat.mod_lt _ (by lia))⟩
theorem Qp {α:Type}:∀ (n:Nat) (xs:List α) (s:Shared) (Q:List α->Shared->Prop),xs.length=n->(∀ ys d,ys.Perm xs->Q ys { s with drawn:=d })->wpAny (model prog w) A (drawOrder n xs) Q E s
 | 0,xs,s,Q,hl,h=>by
  have e:xs=[]:=List.length_eq_zero_iff.mp hl;subst e;unfold drawOrder;exact zCq (h [] s.drawn (List.Perm.refl _))
 | n+1,xs,s,Q,hl,h=>by
  cases xs with
  | nil=>simp at hl
  | cons x xs=>
   unfold drawOrder;refine zCp (Xr (by simp) fun i hi=>?_);rw[zAf hi]
   dsimp only
   refine zCp (Qp n _ _ _ (by rw[List.length_eraseIdx,if_pos hi]; lia) fun ys d p=>zCq ?_);exact h _ d ((p.cons _).trans (Kv hi))
end
section
variable {prog:Program} {w:World} {A:Around} {E:Value->Shared->Prop} {s:Shared} {I a T:Addr} {i n ep slot:Nat} {o:Obj} {es:Array (Int×Value)} {t:SetTable} {Q:Option Value->Shared->Prop}
theorem P4 {places:Array Value} {cn:Nat} {pl:Nat} {tk:Tok} {k:Int} {x:Value} (hit:Yq s.heap I (.ref T) i a n ep) (hT:s.heap.get? T=some { cls:=.type "tuple",dict:=none,data:=.seq places cn,slots := #[] }) (ho:s.heap.get? a=some o) (hd:o.data = .set es ep t) (hf:t.fits es.size=true) (hn:es.size=n)
  (hp:places[i]?=some (.int (pl:Int) tk)) (hx:es[pl]?=some (k,x))
  (h:∀ h',Yq h' I (.ref T) (i+1) a n ep->zBm I s.heap h'->Q (some x) { s with heap:=h' }):wpAny (model prog w) A (pyNext (.ref I)) Q E s:=by
 have ty:s.TypeIs (.ref I) "set_iterator" := ⟨_,hit,rfl⟩;unfold pyNext;refine zCp (wpAny_attempt (wpAny_callSpecial?_slot (name:=Str.ofString "__next__") ty slot_sin (wpAny_call_entry slot_sin ty Jo ?_ (Ls _))));unfold Builtin.«set_iterator.__next__»;refine zCp (m:=slotArgs "__next__" 0 _) (zCq (zCp (wpAny_fieldsOf hit rfl ?_)))
 dsimp only [rawInt]
 refine zCp (wpAny_setEntries_of ho hd hf ?_);rw[hn,if_neg (by simp)];refine zCp (wpAny_seqItems hT rfl ?_)
 dsimp only
 rw[show ((i:Int)).toNat=i from rfl,hp]
 dsimp only
 refine zCp (Yh ho hd hf (place:=pl) hx ?_);refine zCp (wpAny_setField_rec hit (by simp) fun h1 e1 sb1=>?_);refine zCq ⟨_,rfl,zCq (h h1 ?_ sb1)⟩;unfold Yq;rw[e1];simp [rawInt]
theorem Qi {α:Type} {Q:α->Shared->Prop} (hh:A.handled=none) (h:∀ h' e,(∀ b o,s.heap.get? b=some o->h'.get? b=some o)->Shared.TypeIs { s with heap:=h' } e "StopIteration" -> E e { s with heap:=h' }):wpAny (model prog w) A (newExc (.type "StopIteration") [] >>= raiseNew) Q E s:=by
 refine zCp ?_;simp only [newExc,newTuple];refine zCp (wpAny_newObj_type ?_ (by size_fits));refine zCp (m:=firstArgMember _ _) (wpAny_of_eq (a:=Value.none) (by first | rfl | (simp only [firstArgMember]; rfl)) ?_);refine wpAny_newObj_type ?_ (by size_fits);refine wpAny_raiseNew_none hh (h _ _ (fun b ob e=>zAc _ (zAc _ e)) ⟨_,zAv _ rfl,rfl⟩)
theorem C5 (hh:A.handled=none) (hit:Yq s.heap I (rawInt slot) i a n ep) (ho:s.heap.get? a=some o) (hd:o.data = .set es ep t) (hf:t.fits es.size=true) (hn:es.size=n)
  (hx:∀ (A':Around) (Q':Option (Value×Nat)->Shared->Prop) (E':Value->Shared->Prop),Q' none s->wpAny (model prog w) A' (setNext a slot i ep) Q' E' s)
  (h:∀ h',Heap.ExtBut I s.heap h'->Q none { s with heap:=h' }):wpAny (model prog w) A (pyNext (.ref I)) Q E s:=by
 have ty:s.TypeIs (.ref I) "set_iterator" := ⟨_,hit,rfl⟩;unfold pyNext;refine zCp (wpAny_attempt (wpAny_callSpecial?_slot (name:=Str.ofString "__next__") ty slot_sin (wpAny_call_entry slot_sin ty Jo ?_ (Ls _))));unfold Builtin.«set_iterator.__next__»;refine zCp (m:=slotArgs "__next__" 0 _) (zCq (zCp (wpAny_fieldsOf hit rfl ?_)))
 dsimp only [rawInt]
 refine zCp (wpAny_setEntries_of ho hd hf ?_);rw[hn,if_neg (by simp)];refine zCp (hx _ _ _ ?_)
 dsimp only
 refine zCp (wpAny_setField_rec hit (by simp) fun h1 e1 sb1=>?_);refine Qi (s:={ s with heap:=h1 }) (by exact hh) fun h2 e k2 te=>?_
 dsimp only
 refine zCp (wpAny_isInstance (T := "StopIteration") (b:=true) te isSubtype_stop ?_);exact zCq (h h2 (fun b ob nb e'=>k2 b ob ((sb1.2 b nb).trans e')))
theorem AU {places:Array Value} {cn:Nat} (hh:A.handled=none) (hit:Yq s.heap I (.ref T) i a n ep) (hT:s.heap.get? T=some { cls:=.type "tuple",dict:=none,data:=.seq places cn,slots := #[] }) (ho:s.heap.get? a=some o) (hd:o.data = .set es ep t) (hf:t.fits es.size=true) (hn:es.size=n) (hp:places[i]?=none)
  (h:∀ h',Heap.ExtBut I s.heap h'->Q none { s with heap:=h' }):wpAny (model prog w) A (pyNext (.ref I)) Q E s:=by
 have ty:s.TypeIs (.ref I) "set_iterator" := ⟨_,hit,rfl⟩;unfold pyNext;refine zCp (wpAny_attempt (wpAny_callSpecial?_slot (name:=Str.ofString "__next__") ty slot_sin (wpAny_call_entry slot_sin ty Jo ?_ (Ls _))));unfold Builtin.«set_iterator.__next__»;refine zCp (m:=slotArgs "__next__" 0 _) (zCq (zCp (wpAny_fieldsOf hit rfl ?_)))
 dsimp only [rawInt]
 refine zCp (wpAny_setEntries_of ho hd hf ?_);rw[hn,if_neg (by simp)];refine zCp (wpAny_seqItems hT rfl ?_)
 dsimp only
 rw[show ((i:Int)).toNat=i from rfl,hp]
 dsimp only
 refine zCp (wpAny_setField_rec hit (by simp) fun h1 e1 sb1=>?_);refine zCp (wpAny_setField_rec e1 (by simp) fun h2 e2 sb2=>?_);refine Qi (s:={ s with heap:=h2 }) (by exact hh) fun h3 e k3 te=>?_
 dsimp only
 refine zCp (wpAny_isInstance (T := "StopIteration") (b:=true) te isSubtype_stop ?_);exact zCq (h h3 (fun b ob nb e'=>k3 b ob ((sb2.2 b nb).trans ((sb1.2 b nb).trans e'))))
theorem Tl {first:Value} {Q:Value->Shared->Prop} (hit:Yq s.heap I first i a n ep) (h:Q (.ref I) s):wpAny (model prog w) A (pyIter (.ref I)) Q E s:=by
 have ty:s.TypeIs (.ref I) "set_iterator" := ⟨_,hit,rfl⟩;refine wpAny_pyIter_slot ty Wc (wpAny_call_entry Wc ty L8 ?_ (Q3 _));unfold Builtin.«dict_keyiterator.__iter__»;exact zCp (m:=slotArgs "__iter__" 0 _) (zCq (zCq ⟨_,rfl, "set_iterator",_,ty,slot_sin.lookup,h⟩))
theorem Wy:Slot "set" "__iter__" "set.__iter__" :=
 .of (owner := "set") (n := "__iter__") (by rw[typeLookup_type,builtinLookup_eq_fast]; kernel_rfl) (by ac_nf) (by ac_nf) (by ac_nf) (by first | exact .inl (by ac_nf) | exact .inr (by ac_nf)) (by rw[isSubtype_type]; kernel_rfl)
theorem V9 (a:Value):argsOk "set.__iter__" ⟨[a],[]⟩:=by unfold argsOk; kernel_rfl
def GK (w:World) (h0 h:Heap) (I a:Addr) (es:Array (Int×Value)) (ep:Nat) (t:SetTable):Prop:=
 (Yq h I (rawInt 0) 0 a es.size ep/\(w.params.followText "set-order" = true\/(w.params.followText "set-order" = false/\(!t.plain&&decide (es.size>1))=false))) \/
 ∃ T ps,Yq h I (.ref T) 0 a es.size ep/\h.get? T=some { cls:=.type "tuple",dict:=none,data:=.seq ((ps:List Nat).map fun i:Nat=>rawInt i).toArray 0,slots := #[] }/\ps.Perm (zAM es.size)/\T≠I/\h0.get? T=none
theorem W1 {Q:Value->Shared->Prop} (hc:o.cls = .type "set") (ho:s.heap.get? a=some o) (hd:o.data = .set es ep t) (hf:t.fits es.size=true) (hz:es.size<=sizeLine)
  (h:∀ h' d I,GK w s.heap h' I a es ep t->(∀ b ob,s.heap.get? b=some ob->h'.get? b=some ob)->s.heap.get? I=none->Q (.ref I) { s with heap:=h',drawn:=d }):wpAny (model prog w) A (pyIter (.ref a)) Q E s:=by
 have ty:s.TypeIs (.ref a) "set" := ⟨_,ho,hc⟩;refine wpAny_pyIter_slot ty Wy (wpAny_call_entry Wy ty P1 ?_ (V9 _));unfold Builtin.«frozenset.__iter__»;refine zCp (m:=Builtin.Frozenset.slot0 "__iter__" _) (zCq ?_);refine zCp (zCp (wpAny_setEntries_of ho hd hf (zCq ?_)));refine zCp ?_;unfold setDrawn;refine zCp (wpAny_setState_of ho hd hf ?_)
 dsimp only
 refine zCp (Pd (zCq ?_));show wpAny _ _ (if (!(w.params.followText "set-order")&&(!t.plain&&decide (es.size>1)))=true then _ else _) _ _ _;have last:∀ (first:Value) (h1:Heap) (d1:Drawn),(∀ b ob,s.heap.get? b=some ob->h1.get? b=some ob)->s.heap.objs.size<=h1.objs.size->(∀ h2,(∀ b ob,h1.get? b=some ob->h2.get? b=some ob)->Yq h2 h1.objs.size first 0 a es.size ep->GK w s.heap h2 h1.objs.size a es ep t) ->
   wpAny (model prog w) A.in1 (do
    let x <- setEpoch a
    let y <- newFields "set_iterator" [first,rawInt 0,Value.ref a,rawInt ↑es.size,rawInt ↑x]
    ret y) (fun fin s'=>∃ v,fin = .done (.ret v)/\∃ T' r,s'.TypeIs v T'/\typeLookup (Value.type T') (Str.ofString "__next__")=pure (some r)/\Q v s') E { s with heap:=h1,drawn:=d1 }:=fun first h1 d1 k1 le bg=>by
  refine zCp ?_;unfold setEpoch;refine zCp (wpAny_setState_of (s:={ s with heap:=h1,drawn:=d1 }) (k1 _ _ ho) hd hf (zCq ?_));refine zCp (wpAny_newObj_type (zCq ⟨_,rfl, "set_iterator",_,⟨_,zAv _ rfl,rfl⟩,slot_sin.lookup,?_⟩));refine h _ d1 h1.objs.size (bg _ (fun b ob e=>zAc _ e) (zAv _ rfl)) (fun b ob e=>zAc _ (k1 b ob e)) ?_;cases z:s.heap.get? h1.objs.size with
  | none=>rfl
  | some ob=>
   have:=zAr z;exact absurd le (Nat.not_le.mpr this)
 by_cases c:(!(w.params.followText "set-order")&&(!t.plain&&decide (es.size>1)))=true
 ·rw[if_pos c]
  refine zCp (Qp _ _ _ _ zAP fun ps d p=>?_);refine zCp (wpAny_newTuple ?_ (by rw[zAa,p.length_eq,zAP]; exact hz));refine last _ _ d (fun b ob e=>zAc _ e) (by rw[zBt]; exact zBn _) fun h2 k2 it=>.inr ⟨s.heap.objs.size,ps,it,k2 _ _ (zAv _ rfl),p,?_,?_⟩
  ·show s.heap.objs.size≠(s.heap.push _).objs.size
   rw[zBt];exact zAs (zBy _)
  ·cases z:s.heap.get? s.heap.objs.size with
   | none=>rfl
   | some ob=>exact absurd (zAr z) (zBx _)
 ·rw[if_neg c]
  refine zCp (zCq ?_);have e:s={ s with heap:=s.heap,drawn:=s.drawn }:=by cases s; rfl
  rw[e];refine last _ s.heap s.drawn (fun _ _ z=>z) (zAg _) fun h2 k2 it=>.inl ⟨it,?_⟩;cases b:w.params.followText "set-order" with
  | true=>exact .inl rfl
  | false=>
   rw[b] at c;exact .inr ⟨rfl,by simpa using c⟩
end
section
variable {prog:Program} {w:World} {A:Around} {E:Value->Shared->Prop} {I a:Addr} {es:Array (Int×Value)} {ep:Nat} {t:SetTable}
def Zq (h:Heap) (a:Addr) (es:Array (Int×Value)) (ep:Nat) (t:SetTable):Prop:=∃ o,h.get? a=some o/\o.data = .set es ep t
theorem Qn (hf:t.fits es.size=true):t.place.size=es.size:=by
 unfold SetTable.fits at hf;simp at hf;exact hf.1
theorem Xv (es:Array (Int×Value)):(zAM es.size).map (fun p=>(es.getD p (0,.none)).2)=es.toList.map (·.2):=by
 refine List.ext_getElem? fun i=>?_;rw[zAl,zAl];by_cases h:i<es.size
 ·rw[zBZ h,zBB,zAK h]
  simp [Array.getD,h]
 ·rw[zBK (by simpa using h),zBB,zBw (by lia)]
  rfl
theorem Km {s:Shared} {h':Heap} (sb:zBm I s.heap h'):Moved [I] (fun x y:Array GenState=>y=x) s { s with heap:=h' }:=⟨fun b o nb e=>(sb.2 b (fun z=>nb (by rw[z]; exact zAk.mpr rfl))).trans e,rfl,rfl,rfl,zAg _⟩
theorem Mo {s:Shared} {h':Heap} (sb:Heap.ExtBut I s.heap h'):Moved [I] (fun x y:Array GenState=>y=x) s { s with heap:=h' }:=⟨fun b o nb e=>sb b o (fun z=>nb (by rw[z]; exact zAk.mpr rfl)) e,rfl,rfl,rfl,zAg _⟩
theorem Zd (hh:A.handled=none) (bt:w.params.followText "set-order" = true) (hf:t.fits es.size=true) (na:a≠I) :
  WalksS prog w A I [I,a] [I] (fun x y=>y=x) es.size (fun i v=>(((pickOrder (w.params.setOrder a ep) es).toList.map (·.2))[i]?)=some v) (fun i s=>Yq s.heap I (rawInt 0) i a es.size ep/\Zq s.heap a es ep t) where
 sub:=fun b hb=>by rw[zAk.mp hb]; exact zAo
 grefl:=fun _=>rfl
 gtrans:=fun _ _ _ h1 h2=>h2.trans h1
 frame:=fun i s h' tk ⟨it,o,ho,hd⟩ _ k=>⟨k I zAo _ it,o,k a (by simp) _ ho,hd⟩
 item:=fun i s Q E hi ⟨it,o,ho,hd⟩ h=>by
  have sz:(pickOrder (w.params.setOrder a ep) es).size=es.size:=by rw[<- zAx,(Mm _ es).length_eq,zAx]
  have ei:(pickOrder (w.params.setOrder a ep) es)[i]?=some ((pickOrder (w.params.setOrder a ep) es)[i]'(by lia)):=zAK (by lia);refine Vp (slot:=0) (nx:=0) it ho hd hf rfl (fun A' Q' E' q=>Sg bt ho hd hf (by rw[ei]; exact q)) fun h' it' sb=>?_;refine h _ _ ?_ ⟨it',o,(sb.2 a na).trans ho,hd⟩ (Km sb);rw[zAl,zBB,ei];rfl
 done:=fun s Q E ⟨it,o,ho,hd⟩ h=>by
  have sz:(pickOrder (w.params.setOrder a ep) es).size=es.size:=by rw[<- zAx,(Mm _ es).length_eq,zAx]
  refine C5 (slot:=0) hh it ho hd hf rfl (fun A' Q' E' q=>Sg bt ho hd hf (by rw[zBw (by lia)]; exact q)) fun h' sb=>h _ (Mo sb)
 self:=fun i s Q E ⟨it,_⟩ h=>Tl it h
theorem Vm (hh:A.handled=none) (bt:w.params.followText "set-order" = false) (hf:t.fits es.size=true) (hl:t.led=true) (rs:Rs t.place) (hp:(!t.plain&&decide (es.size>1))=false) (na:a≠I) :
  WalksS prog w A I [I,a] [I] (fun x y=>y=x) es.size (fun i v=>((es.toList.map (·.2))[i]?)=some v) (fun i s=>Yq s.heap I (rawInt (Hu t.place i)) i a es.size ep/\Zq s.heap a es ep t) where
 sub:=fun b hb=>by rw[zAk.mp hb]; exact zAo
 grefl:=fun _=>rfl
 gtrans:=fun _ _ _ h1 h2=>h2.trans h1
 frame:=fun i s h' tk ⟨it,o,ho,hd⟩ _ k=>⟨k I zAo _ it,o,k a (by simp) _ ho,hd⟩
 item:=fun i s Q E hi ⟨it,o,ho,hd⟩ h=>by
  have sz:=Qn hf;have bl:=Qq rs (i:=i) (by lia);have ei:es[i]?=some (es[i]'hi):=zAK hi;have pi:t.place[i]?=some (t.place[i]'(by lia)):=zAK (by lia);have en:Hu t.place (i+1)=t.place[i]'(by lia)+1:=by
   unfold Hu;rw[if_neg (by lia),Nat.add_sub_cancel];simp [Array.getD,show i<t.place.size by lia]
  refine Vp (slot:=Hu t.place i) (nx:=Hu t.place (i+1)) it ho hd hf rfl (fun A' Q' E' q=>Qe bt ho hd hf hl hp (by rw[bl,ei,pi]; dsimp only; rw[<- en]; exact q)) fun h' it' sb=>?_;refine h _ _ ?_ ⟨it',o,(sb.2 a na).trans ho,hd⟩ (Km sb);rw[zAl,zBB,ei];rfl
 done:=fun s Q E ⟨it,o,ho,hd⟩ h=>by
  have sz:=Qn hf;have bl:=Qq rs (i:=es.size) (by lia);refine C5 (slot:=Hu t.place es.size) hh it ho hd hf rfl (fun A' Q' E' q=>Qe bt ho hd hf hl hp (by rw[bl,zBw (zAg _)]; exact q)) fun h' sb=>h _ (Mo sb)
 self:=fun i s Q E ⟨it,_⟩ h=>Tl it h
theorem Wz {T:Addr} {ps:List Nat} (hh:A.handled=none) (hf:t.fits es.size=true) (pm:ps.Perm (zAM es.size)) (na:a≠I) (nT:T≠I) :
  WalksS prog w A I [I,a,T] [I] (fun x y=>y=x) es.size (fun i v=>((ps.map fun p=>(es.getD p (0,.none)).2)[i]?)=some v)
   (fun i s=>Yq s.heap I (.ref T) i a es.size ep/\Zq s.heap a es ep t/\s.heap.get? T=some { cls:=.type "tuple",dict:=none,data:=.seq (ps.map fun i:Nat=>rawInt i).toArray 0,slots := #[] }) where
 sub:=fun b hb=>by rw[zAk.mp hb]; exact zAo
 grefl:=fun _=>rfl
 gtrans:=fun _ _ _ h1 h2=>h2.trans h1
 frame:=fun i s h' tk ⟨it,⟨o,ho,hd⟩,hT⟩ _ k=>⟨k I zAo _ it,⟨o,k a (by simp) _ ho,hd⟩,k T (by simp) _ hT⟩
 item:=fun i s Q E hi ⟨it,⟨o,ho,hd⟩,hT⟩ h=>by
  have ln:ps.length=es.size:=by rw[pm.length_eq,zAP]
  have ei:ps[i]?=some (ps[i]'(by lia)):=zAf (by lia);have pl:ps[i]'(by lia)<es.size:=zBz.mp (pm.mem_iff.mp (zBg _));have ex:es[ps[i]'(by lia)]?=some (es[ps[i]'(by lia)]'pl):=zAK pl;refine P4 (pl:=ps[i]'(by lia)) (k:=(es[ps[i]'(by lia)]'pl).1) (x:=(es[ps[i]'(by lia)]'pl).2) it hT ho hd hf rfl (tk:=0) ?_ ex fun h' it' sb=>?_
  ·rw[zBS,zAl,ei]
   rfl
  ·refine h _ _ ?_ ⟨it',⟨o,(sb.2 a na).trans ho,hd⟩,(sb.2 T nT).trans hT⟩ (Km sb)
   rw[zAl,ei];simp [Array.getD,pl]
 done:=fun s Q E ⟨it,⟨o,ho,hd⟩,hT⟩ h=>by
  have ln:ps.length=es.size:=by rw[pm.length_eq,zAP]
  refine AU hh it hT ho hd hf rfl ?_ fun h' sb=>h _ (Mo sb);rw[zBS,zAl,zBK (by lia)];rfl
 self:=fun i s Q E ⟨it,_⟩ h=>Tl it h
theorem E9 (hh:A.handled=none) {h0 h:Heap} (hs:Zq h a es ep t) (hf:t.fits es.size=true) (g:Jy (w.params.followText "set-order") t) (na:a≠I) (nI:h0.get? I=none) (b:GK w h0 h I a es ep t) :
  ∃ (os:List Value) (fp:List Addr) (St:Nat->Shared->Prop),os.Perm (es.toList.map (·.2))/\WalksS prog w A I fp [I] (fun x y=>y=x) es.size (fun i v=>os[i]?=some v) St/\(∀ s:Shared,s.heap=h->St 0 s)/\∀ x∈fp,x=a\/h0.get? x=none:=by
 rcases b with ⟨it,bt | ⟨bt,hp⟩⟩ | ⟨T,ps,it,hT,pm,nT,nT0⟩
 ·refine⟨_,_,_,(Mm (w.params.setOrder a ep) es).map _,Zd hh bt hf na,fun s e=>by rw[e]; exact⟨it,hs⟩,fun x hx=>?_⟩
  rcases zAq.mp hx with z | z
  ·rw[z]; exact .inr nI
  ·exact .inl (zAk.mp z)
 ·refine⟨_,_,_,List.Perm.refl _,Vm hh bt hf (g.ld bt) g.rs hp na,fun s e=>by rw[e]; exact⟨it,hs⟩,fun x hx=>?_⟩
  rcases zAq.mp hx with z | z
  ·rw[z]; exact .inr nI
  ·exact .inl (zAk.mp z)
 ·refine⟨_,_,_,(pm.map _).trans (List.Perm.of_eq (Xv es)),Wz hh hf pm na nT,fun s e=>by rw[e]; exact⟨it,hs,hT⟩,fun x hx=>?_⟩
  rcases zAq.mp hx with z | z
  ·rw[z]; exact .inr nI
  ·rcases zAq.mp z with z | z
   ·exact .inl z
   ·rw[zAk.mp z]; exact .inr nT0
end
section
variable {prog:Program} {w:World} {A:Around} {E:Value->Shared->Prop} {s:Shared} {a:Addr} {o:Obj} {es:Array (Int×Value)} {ep:Nat} {t:SetTable}
theorem Y8:typeLookup (.type "set") (Str.ofString "__len__")=pure (some (.builtin "set.__len__")):=F.slot_set_len.lookup
theorem BZ:isSubtype (.type "set") (.type "set")=pure true:=by rw[isSubtype_type]; kernel_rfl
theorem S5 {Q:Bool->Shared->Prop} (ty:s.TypeIs (.ref a) "set") (h:Q false s):wpAny (model prog w) A (Builtin.List.listLengthHint (.ref a)) Q E s:=by
 unfold Builtin.List.listLengthHint;refine zCp (wpAny_specialOf ty Y8 ?_);generalize hid:("set.__len__" : String)=id0
 wp_delta
 rw[show splitId id0=some ("set", "__len__") from by subst hid; decide +kernel];subst hid;refine zCp (wpAny_isInstance ty BZ ?_);show wpAny _ A (typeOf (Value.ref a) >>= _) _ _ _;refine zCp (wpAny_typeOf ty ?_);exact zCq h
theorem Od {Q:List Value->Shared->Prop} (hh:A.handled=none) (hc:o.cls = .type "set") (ho:s.heap.get? a=some o) (hd:o.data = .set es ep t) (hf:t.fits es.size=true) (g:Jy (w.params.followText "set-order") t) (hz:es.size<=sizeLine)
  (h:∀ s' vs,vs.Perm (es.toList.map (·.2))->(∀ b ob,s.heap.get? b=some ob->s'.heap.get? b=some ob)->s'.gens=s.gens->s'.os=s.os->Q vs s'):wpAny (model prog w) A (collect (.ref a)) Q E s:=by
 unfold collect;refine zCp (wpAny_runValue (codeAny_builtin F.entry_proto_collect ?_));rw[Around.under_plainId F.plain_proto_collect _];show wpAny _ A.in1 (newList [] >>= fun l=>again (.builtin "list.__iadd__" ⟨[l,.ref a],[]⟩)) _ _ s;refine zCp (wpAny_newObj_type (zCq ⟨plainId_quiet F.plain_list_iadd _,codeAny_builtin F.entry_list_iadd ?_⟩));rw[Around.under_plainId F.plain_list_iadd _];have lt:a<s.heap.objs.size:=zAr ho;have old:∀ b ob,s.heap.get? b=some ob->(s.heap.push { cls:=.type "list",data:=.seq ([]:List Value).toArray }).get? b=some ob:=fun b ob e=>zAc _ e;have at0:(s.heap.push { cls:=.type "list",data:=.seq ([]:List Value).toArray }).get? s.heap.objs.size=some { cls:=.type "list",data:=.seq ([]:List Value).toArray }:=zAv _ rfl;generalize hL:s.heap.objs.size=L at at0;generalize s.heap.push { cls:=.type "list",data:=.seq ([]:List Value).toArray }=H at old at0;have nL:s.heap.get? L=none:=by
  cases z:s.heap.get? L with
  | none=>rfl
  | some ob=>exact absurd (zAr z) (by rw[hL]; exact zBx _)
 show wpAny _ A.in1 (Builtin.List.listExtendWith (.ref L) (.ref a) (.ref L)) _ _ { s with heap:=H };unfold Builtin.List.listExtendWith;have ty:Shared.TypeIs { s with heap:=H } (.ref a) "set" := ⟨_,old _ _ ho,hc⟩;refine zCp (wpAny_typeOf ty ?_);have c1:Builtin.List.listSameRef (.ref L) (.ref a)=false:=by
  have:L≠a:=by rw[<- hL]; exact zAG lt
  simp [Builtin.List.listSameRef,this]
 rw[if_neg (by rw[c1]; decide)];refine zCp (W1 (s:={ s with heap:=H }) hc (old _ _ ho) hd hf hz fun h1 d I bg k1 nI=>?_);have ty1:Shared.TypeIs { s with heap:=h1,drawn:=d } (.ref a) "set" := ⟨_,k1 _ _ (old _ _ ho),hc⟩;refine zCp (wpAny_holding (S5 ty1 ?_));show wpAny _ A.in1 (rule "list.extend.makes-room" >>= fun _=>Builtin.List.listTouch (.ref L) >>= fun _=>again (.builtin "list.extend.loop" ⟨[.ref L,.ref I,.ref L],[]⟩)) _ _ _;refine zCp (wpAny_rule (zCp ?_));show wpAny _ A.in1 (updateSeq L (·.push .none) >>= fun _=>updateSeq L (·.pop)) _ _ _;have at1:=k1 _ _ at0;refine zCp (wpAny_updateSeq (s:={ s with heap:=h1,drawn:=d }) at1 rfl ?_);have at2:=zBj (Obj.mapSeq (·.push Value.none)) at1 rfl;refine wpAny_updateSeq at2 rfl ?_;have at3:=zBj (Obj.mapSeq (·.pop)) at2 rfl;have oth:∀ b ob,b≠L->h1.get? b=some ob->((h1.update L (Obj.mapSeq (·.push Value.none))).update L (Obj.mapSeq (·.pop))).get? b=some ob:=fun b ob nb e=>
  (zBf _ _ (Ne.symm nb)).trans ((zBf _ _ (Ne.symm nb)).trans e)
 have naI:a≠I:=fun z=>by
  rw[<- z] at nI;have:=old _ _ ho;have nI':H.get? a=none:=nI;rw[this] at nI';cases nI'
 have nLI:L≠I:=fun z=>by
  rw[<- z] at nI;have nI':H.get? L=none:=nI;rw[at0] at nI';cases nI'
 obtain⟨vs,fp,St,pm,W,st0,inf⟩:=E9 (prog:=prog) (A:=A.in1.in1) (by exact hh) (h:=h1) ⟨o,k1 _ _ (old _ _ ho),hd⟩ hf g naI nI bg;have nf:L∉fp:=fun z=>by
  rcases inf L z with e | e
  ·exact absurd e (by rw[<- hL]; exact zAG lt)
  ·have e':H.get? L=none:=e
   rw[at0] at e';cases e'
 have st1:=W.frame 0 { s with heap:=h1,drawn:=d } _ s.toks (st0 _ rfl) (zAg _) fun b hb ob e=>oth b ob (fun z=>nf (z▸hb)) e;refine zCq ⟨plainId_quiet F.plain_extend_loop _,codeAny_extend_loopS W.of_in1 hz L nf _ es.size 0 _ _ _ rfl (zAC _) st1 at3 (ItemsOf.nil _) fun s' acc c' hm hS' hacc=>?_⟩;show wpAny _ A (load L >>= _) _ _ s';refine zCp (wpAny_load hS' (zCq ?_));have ea:acc.toList=vs:=by
  obtain⟨z1,z2⟩:=hacc;have lv:vs.length=es.size:=by rw[pm.length_eq,zAa,zAx]
  refine List.ext_getElem? fun j=>?_;rw[zBB];by_cases hj:j<acc.size
  ·rw[zAK hj]
   exact (z2 j _ (zAK hj)).symm
  ·rw[zBw (by omega),zBK (by omega)]
 rw[ea];refine h s' vs pm (fun b ob e=>hm.heap b ob (fun z=>?_) (oth b ob (fun z=>?_) (k1 b ob (old b ob e)))) hm.gens hm.os
 ·rcases zAq.mp z with z | z
  ·rw[z,nL] at e
   cases e
  ·rw[zAk.mp z] at e
   have e':=old _ _ e;have nI':H.get? I=none:=nI;rw[e'] at nI';cases nI'
 ·rw[z,nL] at e
  cases e
end
section
variable {prog:Program} {w:World} {A:Around} {E:Value->Shared->Prop} {s:Shared}
theorem Zt {x:Value} {Q:Value->Shared->Prop} (h:Q (.ref s.heap.objs.size) { s with heap:=s.heap.push { cls:=.type "set",dict:=none,data:=.set #[] 0 (.fresh 0 0 (!w.params.followText "set-order")) } }) :
  codeAny (model prog w) A (.call (.builtin "set.__new__") ⟨[.type "set",x],[]⟩) (wants Q E) s:=by
 refine codeAny_of_tree ?_;show wpAny _ A.in1 (do checkBuiltinCall "set.__new__" ⟨[.type "set",x],[]⟩; again (.builtin "set.__new__" ⟨[.type "set",x],[]⟩)) _ _ s;refine zCp (wpAny_of_eq (F.newCall_set_1 x) (zCq ⟨plainId_quiet F.plain_set_new _,codeAny_builtin F.entry_set_new ?_⟩));rw[Around.under_plainId F.plain_set_new _];unfold Builtin.«set.__new__» Builtin.Frozenset.newClass;have hsub:=sub_set_self;obtain⟨hp,gn,d,tk,os⟩:=s
 dsimp only
 wp_walk
 refine wpAny_askSetting (zCq ?_)
 dsimp only
 simp only [newObj];exact zCp (wpAny_alloc (zCq (zCq h)))
variable {R:Result->Shared->Prop} {I:Addr} {fp wr:List Addr} {G:Array GenState->Array GenState->Prop} {n:Nat} {P:Nat->Value->Prop} {St:Nat->Shared->Prop}
theorem GSet.keep {h h':Heap} {a:Addr} {ks:List Int} (g:GSet (intKind prog w) h a ks) (k:∀ o,h.get? a=some o->h'.get? a=some o):GSet (intKind prog w) h' a ks:=by
 obtain⟨o,es,ep,t,ho,r⟩:=g;exact⟨o,es,ep,t,k o ho,r⟩
theorem Wa (W:WalksS prog w A.in1 I fp wr G n P St) (S:Addr) (nS:S∉fp) (val:Nat->Int) (hv:∀ i v,P i v->∃ t,v = .int (val i) t) (hb:n+1<scanBound) :
  ∀ (k i:Nat) (s:Shared) (ks:List Int),n-i=k->i<=n->St i s->GSet (intKind prog w) s.heap S ks->(∀ y,y∈ks↔∃ j,j<i/\val j=y)->ks.length<=i ->
   (∀ s' ks',Moved (S::wr) G s s'->GSet (intKind prog w) s'.heap S ks'->(∀ y,y∈ks'↔∃ j,j<n/\val j=y)->ks'.length<=n->R (.ok (.ret .none)) s') ->
   codeAny (model prog w) A (.builtin "set.update.loop" ⟨[.ref S,.ref I],[]⟩) R s:=by
 have nw:S∉wr:=fun z=>nS (W.sub _ z);have sub:∀ b∈wr,b∈S::wr:=fun b hb=>zAm _ hb;intro k
 induction k with
 | zero=>
  intro i s ks hk hi st g mem len fin;have e:i=n:=by lia
  subst e;refine codeAny_builtin PyProof.Rows.F.entry_set_update_loop ?_;rw[Around.under_plainId PyProof.Rows.F.plain_set_update_loop _];show wpAny _ A.in1 (pyNext (.ref I) >>= _) _ _ s;refine zCp (W.done s _ _ st fun s' hm=>?_);show wpAny _ A.in1 (ret Value.none) _ _ s';exact zCq (fin s' ks (hm.mono sub) (g.keep fun o e=>hm.heap S o nw e) mem len)
 | succ k ih=>
  intro i s ks hk hi st g mem len fin;refine codeAny_builtin PyProof.Rows.F.entry_set_update_loop ?_;rw[Around.under_plainId PyProof.Rows.F.plain_set_update_loop _];show wpAny _ A.in1 (pyNext (.ref I) >>= _) _ _ s;refine zCp (W.item i s _ _ (by lia) st fun v s' hP st' hm=>?_);obtain⟨tk,rfl⟩:=hv i v hP;have g':=g.keep fun o e=>hm.heap S o nw e;show wpAny _ A.in1 (holding [Value.int (val i) tk] (setAdd S (.int (val i) tk)) >>= _) _ _ s';refine zCp (wpAny_holding ?_);unfold setAdd;refine wpAny_holding (zCp ((intKind prog w).pyHash (k:=val i) (intKind_is _ _ _ _) ?_));refine BR (knd:=intKind prog w) (s:={ s' with toks:=s'.toks+1 }) (intKind_is _ _ _ _) rfl g' (by lia) fun b h' ks' sb g2 pm=>?_;have len':ks'.length<=i+1:=by
   rw[pm.length_eq]
   split
   ·lia
   ·rw[zAe,List.length_singleton]; lia
  have mem':∀ y,y∈ks'↔∃ j,j<i+1/\val j=y:=fun y=>by
   rw[pm.mem_iff];constructor
   ·intro hy
    split at hy
    ·obtain⟨j,h1,h2⟩:=(mem y).mp hy
     exact⟨j,by lia,h2⟩
    ·rcases zAW.mp hy with z | z
     ·obtain⟨j,h1,h2⟩:=(mem y).mp z
      exact⟨j,by lia,h2⟩
     ·exact⟨i,by lia,(zAk.mp z).symm⟩
   ·rintro ⟨j,h1,h2⟩
    have old:∀ {z},z∈ks->z∈(if val i∈ks then ks else ks++[val i]):=fun {z} hz=>by
     split
     ·exact hz
     ·exact zBE _ hz
    by_cases c:j<i
    ·exact old ((mem y).mpr ⟨j,c,h2⟩)
    ·have e:j=i:=by lia
     subst e
     split
     ·rw[<- h2]; assumption
     ·rw[<- h2]; exact zAI _ (zAk.mpr rfl)
  refine zCq ⟨plainId_quiet PyProof.Rows.F.plain_set_update_loop _,ih (i+1) _ ks' (by lia) (by lia) (W.frame _ s' _ _ st' (zBn _) fun b hb o e=>?_) g2 mem' len' fun s2 ks2 hm2 g3 m3 l3=>?_⟩
  ·rw[sb.2 b (fun z:b=S=>nS (by rw[<- z]; exact hb))]; exact e
  ·refine fin s2 ks2 (Moved.trans W.gtrans ((hm.mono sub).then_heap (zBn _) fun b o hb e=>?_) hm2) g3 m3 l3
   rw[sb.2 b (fun z:b=S=>hb (by rw[z]; exact zAo))]; exact e
end
section
variable {prog:Program} {w:World} {A:Around} {E:Value->Shared->Prop} {s:Shared}
abbrev He (w:World):Obj:={ cls:=.type "set",dict:=none,data:=.set #[] 0 (.fresh 0 0 (!w.params.followText "set-order")) }
theorem W3 {h:Heap} {a:Addr} (ho:h.get? a=some (He w)):GSet (intKind prog w) h a []:=by
 refine⟨_,#[],0,_,ho,⟨rfl,rfl,rfl⟩,rfl,.nil,List.nodup_nil,by decide,rfl,?_⟩;exact Pt (w.params.followText "set-order")
theorem set_of_list {l:Addr} {items:Array Value} {ns:List Int} {Q:Value->Shared->Prop} (hh:A.handled=none) (hl:s.heap.IsList l items) (hi:PyProof.Rows.IntsAre items.toList ns) (hb:items.size+1<scanBound)
  (h:∀ (h':Heap) (tk:Nat) (ks:List Int),GSet (intKind prog w) h' s.heap.objs.size ks->(∀ y,y∈ks↔y∈ns)->ks.length<=items.size->(∀ b o,s.heap.get? b=some o->h'.get? b=some o)->Q (.ref s.heap.objs.size) { s with heap:=h',toks:=tk }) :
  wpAny (model prog w) A (call (.type "set") [.ref l]) Q E s:=by
 obtain⟨c,tl,hmro⟩:=F.called_set.mro;have hmade:=F.called_set.made;have hsub:=F.called_set.sub;have h1:=F.called_set.notType;have h2:=F.called_set.canCreate;have hct:=F.typeCall_set_1 (.ref l);refine wpAny_call (codeAny_of_tree (show wpAny _ _ (callAny (.type "set") _) _ _ _ from ?_));refine zCq ⟨Code.quiet_builtin _ (by ac_nf),codeAny_builtin F.entry_type_call ?_⟩;rw[Around.under_plain (weight_type_call_type "set" [.ref l] []) rfl]
 repeat (any_goals (first | assumption | wp_step))
 refine codeAny_mono (Zt (x:=.ref l) (E:=E) (Q:=fun v s₁ => v = .ref s.heap.objs.size/\s₁ = { s with heap:=s.heap.push (He w) }) ⟨rfl,rfl⟩) fun r s₁ hr=>?_;cases r with
 | error e=>exact hr
 | ok fl=>
  cases fl with
  | ret obj=>
   obtain⟨rfl,rfl⟩:=hr;have at0:(s.heap.push (He w)).get? s.heap.objs.size=some (He w):=zAv _ rfl;have hT:Shared.TypeIs { s with heap:=s.heap.push (He w) } (.ref s.heap.objs.size) "set" := ⟨_,at0,rfl⟩;have hli:=F.called_set.init.lookup;have hbi:=F.called_set.init.bind (.ref s.heap.objs.size)
   repeat (any_goals (first | assumption | wp_step))
   refine codeAny_mono (codeAny_call_builtin (R:=wants (fun r s₂ => r = .none/\∃ h' tk ks,s₂ = { s with heap:=h',toks:=tk }/\GSet (intKind prog w) h' s.heap.objs.size ks/\(∀ y,y∈ks↔y∈ns)/\ks.length<=items.size/\(∀ b o,s.heap.get? b=some o->h'.get? b=some o)) E)
    F.called_set.init.plain F.entry_set_init (check_set_init_1 hT ?_)) fun r₂ s₂ hr₂ => ?_
   ·obtain⟨⟨oc,od,odt,osl⟩,hol,hcl,nl,hdl⟩:=id hl
    simp only at hcl hdl;subst hcl hdl;have old:(s.heap.push (He w)).get? l=some { cls:=.type "list",dict:=od,data:=.seq items nl,slots:=osl }:=zAc _ hol;have il:(s.heap.push (He w)).IsList l items:=⟨_,old,rfl,nl,rfl⟩;have lt:l<s.heap.objs.size:=zAr hol;have u1:=F.sub_list_set;have u2:=F.sub_list_frozenset;have u3:(Value.type "list" == Value.type "dict")=false:=by decide
    unfold Builtin.«set.__init__» noKeywords Builtin.Frozenset.updateFrom;generalize hPI:pyIter=PI
    wp_walk
    subst hPI;refine wpAny_pyIter_list il (zCp (wpAny_runValue ?_));have sz:(s.heap.push (He w)).objs.size=s.heap.objs.size+1:=zBt ..;have ne:l≠(s.heap.push (He w)).objs.size:=by rw[sz]; exact zAs (zAU lt)
    have h3:A.in1.in1.in1.handled=none:=by simp [hh]
    have nf:s.heap.objs.size∉[(s.heap.push (He w)).objs.size,l]:=by
     rw[sz];intro z;rcases zAq.mp z with z | z
     ·exact absurd z (zAs (zBy _))
     ·exact absurd (zAk.mp z) (zAG lt)
    have hv:∀ (i:Nat) (v:Value),items[i]?=some v->∃ t,v = .int ((fun i=>ns.getD i 0) i) t:=fun i v e=>PyProof.Rows.IntsAre.int_at hi i v (by rw[zBB]; exact e);have ln:items.size=ns.length:=by rw[<- zAx]; exact hi.length
    refine Wa ((Walks.list h3 _ l ne items).toS) s.heap.objs.size nf (fun i=>ns.getD i 0) hv hb (items.size-0) 0 _ [] (by lia) (zAC _) ⟨⟨_,zAv _ rfl,rfl,rfl⟩,il.push _⟩ (W3 (zAc _ at0)) (fun y=>⟨fun z=>(nomatch z),fun ⟨j,z,_⟩=>absurd z (zBc _)⟩) (zAC _) fun s' ks hm g m ln'=>?_;obtain⟨h',g',d',tk',os'⟩:=s';have eg:g'=s.gens:=hm.gens;have ed:d'=s.drawn:=hm.drawn;have eo:os'=s.os:=hm.os;subst eg ed eo;refine zCq (zCq ⟨rfl,h',tk',ks,rfl,g,fun y=>?_,ln',fun b o e=>?_⟩)
    ·rw[m y]
     constructor
     ·rintro ⟨j,z1,z2⟩
      rw[<- z2];show ns.getD j 0∈ns;rw[zAR,zAf (by lia)];exact zBg _
     ·intro z
      obtain⟨j,hj,e⟩:=zBh z;refine⟨j,by lia,?_⟩;show ns.getD j 0=y;rw[zAR,zAf hj];exact e
    ·refine hm.heap b o (fun z=>?_) (zAc _ (zAc _ e))
     have lb:=zAr e;rcases zAq.mp z with z | z
     ·exact absurd z (zAs lb)
     ·exact absurd (zAk.mp z) (by rw[sz]; exact zAs (zAU lb))
   ·cases r₂ with
    | error e=>exact hr₂
    | ok fl₂ =>
     cases fl₂ with
     | ret r=>
      obtain⟨rfl,h',tk,ks,rfl,g,m,ln,k⟩:=hr₂
      repeat (any_goals (first | assumption | wp_step))
      exact h _ _ ks g m ln k
     | _=>exact hr₂.elim
  | _=>exact hr.elim
end
end CST
namespace CST
open PySem PyProof.Rows
section
variable {prog:Program} {w:World} {A:Around} {E:Value->Shared->Prop} {s:Shared}
theorem Nu:∀ {l:List (Int×Value)} {ks:List Int},Paired (AW (intKind prog w)) l ks->IntsAre (l.map (·.2)) ks
 | _,_,.nil=>.nil
 | e::l,k::ks,.cons r t=>by
  obtain⟨tk,h⟩:=Value.isInt_shape r.1;rw[zAw,h];exact .cons k tk (Nu t)
theorem G0:∀ {vs us:List Value},vs.Perm us->∀ {ns:List Int},IntsAre us ns->∃ ms:List Int,IntsAre vs ms/\ms.Perm ns:=by
 intro vs us p;have q:=p.symm;clear p
 induction q with
 | nil=>intro ns h; exact⟨ns,h,List.Perm.refl _⟩
 | cons x _ ih=>
  intro ns h;cases h with
  | cons n t r=>
   obtain⟨ms,h1,h2⟩:=ih r;exact⟨n::ms,.cons n t h1,h2.cons n⟩
 | swap x y l=>
  intro ns h;cases h with
  | cons n t r=>
   cases r with
   | cons m u r2=>exact⟨_,.cons m u (.cons n t r2),List.Perm.swap _ _ _⟩
 | trans _ _ ih1 ih2=>
  intro ns h;obtain⟨m1,h1,p1⟩:=ih1 h;obtain⟨m2,h2,p2⟩:=ih2 h1;exact⟨m2,h2,p2.trans p1⟩
theorem sorted_set {a:Addr} {ks:List Int} {Q:Value->Shared->Prop} (hh:A.handled=none) (g:GSet (intKind prog w) s.heap a ks) (h64:ks.length<64)
  (h:∀ (s':Shared) (l:Addr) (out:Array Value) (ms:List Int) (e:Nat),IntsAre out.toList ms->ms.Perm ks->ms.Pairwise (· <= ·)->(∀ b o,s.heap.get? b=some o->s'.heap.get? b=some o)->a<l->s'.heap.get? l=some (seqObj "list" out e)->s'.gens=s.gens->s'.os=s.os->Q (.ref l) s') :
  wpAny (model prog w) A (call (.builtin "sorted") [.ref a]) Q E s:=by
 obtain⟨o,es,ep,t,ho,hex,hd,hp,nd,hb,hf,gd⟩:=g;have lk:es.size=ks.length:=by rw[<- zAx]; exact Paired.length hp
 have line:es.size<=sizeLine:=by rw[zCr]; lia
 refine Calls.call_function_entry kind_sorted plain_sorted entry_sorted (args_sorted1 _) ?_;unfold Builtin.«sorted»;refine zCp (m:=checkCount "sorted" 1 1 _) (zCq (zCp (Od (by exact hh) hex.1 ho hd hf gd line fun s' vs pm k eg eo=>?_)));have lv:vs.length=ks.length:=by rw[pm.length_eq,zAa,zAx,lk]
 obtain⟨ms,im,mp⟩:=G0 pm (Nu hp);refine zCp (wpAny_newList ?_ (by rw[lv,<- lk]; exact line));have at1:(s'.heap.push (seqObj "list" vs.toArray 0)).get? s'.heap.objs.size=some (seqObj "list" vs.toArray 0):=zAv _ rfl;refine zCp (wpAny_holding (wpAny_call_entry slot_list_sort ⟨_,at1,rfl⟩ entry_list_sort (list_sort_tree (s:={ s' with heap:=s'.heap.push (seqObj "list" vs.toArray 0) }) at1 im (by lia) fun out ns' a1 a2 a3=>⟨_,rfl,?_⟩) (args_list_sort _)));refine zCq ⟨_,rfl,?_⟩;obtain⟨e,he⟩:=sortedHeap_at (out:=out) at1;have lt:∀ b ob,s.heap.get? b=some ob->b<s'.heap.objs.size:=fun b ob z=>zAr (k b ob z);refine h _ s'.heap.objs.size out ns' e a1 (a2.trans mp) a3 (fun b ob z=>?_) ?_ he eg eo
 ·show (sortedHeap _ _ _ _).get? b=_
  rw[sortedHeap_old (zAs (lt b ob z)) (by rw[size_push']; exact zAU (lt b ob z))];exact zAc _ (k b ob z)
 ·exact lt a o ho
end
end CST
namespace L2
open PySem PySem.Spec PyProof.Rows PySem.W
theorem Jm:∀ {us:List Value} {ns:List Int},IntsAre us ns->Vals (ns.map V.int) us
 | _,_,.nil=>.nil
 | _,_,.cons n t r=>.cons ⟨t,rfl⟩ (Jm r)
section
variable {X:Cx}
def V4 (K:zAb) (te:TE):TE:=fun σ H Q=>te σ H fun x H1=>∃ (a:Addr) (ns:List Int),x = .ref a/\SqL K H1 a (ns.map V.int)/\ns.length<64 /\
 ∀ (l:Addr) (ms:List Int),H1 l=none->ms.Pairwise (· < ·)->(∀ y,y∈ms↔y∈ns)->Q (.ref l) (upd H1 l (.lst (ms.map V.int)))
theorem Eu:∀ {ms:List Int},ms.Pairwise (· <= ·)->ms.Nodup->ms.Pairwise (· < ·)
 | [],_,_=>.nil
 | x::ms,h,n=>by
  rw[zBs] at h;rw[zBp] at n;rw[zBs];refine⟨fun y hy=>?_,Eu h.2 n.2⟩;have:=h.1 y hy;have ne:x≠y:=fun z=>n.1 (by rw[z]; exact hy)
  lia
theorem CI {e:Expr} {te:TE} {p1 p2 pos1 pos2:Pos} (he:PE X e te) (hc:X.calm=true) (hg1:Gl X "sorted") (hm1:X.mg "sorted" = none) (hg2:Gl X "set") (hm2:X.mg "set" = none)
  (hv1:zCs "sorted" = some (.builtin "sorted"):=by rfl) (hv2:zCs "set" = some (.type "set"):=by rfl)
  (hs1:starEach [.Call (.Name "set" p2) [e] [] pos2] X.env=[(false,eval (.Call (.Name "set" p2) [e] [] pos2) X.env)]:=by rfl) (hs2:starEach [e] X.env=[(false,eval e X.env)]:=by rfl) :
  PE X (.Call (.Name "sorted" p1) [.Call (.Name "set" p2) [e] [] pos2] [] pos1) (V4 X.K te):=by
 intro pins s σ H Q I h;refine wpAny_Call_Name_kw (Dy I hg1 hm1 hv1 ?_ (by decide) (by decide));refine PyProof.Rows.callWith_builtin1 ?_ hs1 rfl;rw[hs1];show wpAny _ _ (spliced ((false,eval (.Call (.Name "set" p2) [e] [] pos2) X.env)::backTo pos1 [])) _ _ s;refine Calls.spliced_cons ?_;refine wpAny_Call_Name_kw (Dy I hg2 hm2 hv2 ?_ (by decide) (by decide));refine PyProof.Rows.callWith_type1 ?_ hs2 rfl;rw[hs2];show wpAny _ _ (spliced ((false,eval e X.env)::backTo pos2 [])) _ _ s;refine Calls.spliced_cons (Cn (he pins s σ H _ I h) fun u s1 ⟨x,H1,I1,r1,a,ns,ex,hq,l64,q⟩=>?_);subst ex;cases r1;refine Calls.spliced_nil ?_;obtain⟨its,rv,pl,hz⟩:=I1.list hq;have hl:=rv.length;rw[zAa] at hl;have hh:X.A.handled=none:=I.ok.hd hc;refine CST.set_of_list (items:=its.toArray) (ns:=ns) hh pl.isList (Lm rv) (by rw[zAd]; unfold scanBound; lia) fun h2 tk ks g mem len k2=>?_;refine Calls.spliced_nil ?_;rw[zAd] at len;refine CST.sorted_set (s:={ s1 with heap:=h2,toks:=tk }) hh g (by lia) fun s' l out ms ee im pm pw k3 al hl' eg eo=>?_;have nd:ms.Nodup:=by
  obtain⟨_,_,_,_,_,_,_,_,nd,_⟩:=g;exact pm.nodup_iff.mpr nd
 have lt:=Eu pw nd;have kk:∀ b ob,s1.heap.get? b=some ob->s'.heap.get? b=some ob:=fun b ob z=>k3 b ob (k2 b ob z);have le:s1.heap.objs.size<=l:=zBD al;have lp:(ms.map V.int).length<=sizeLine:=by rw[zAa,pm.length_eq,zCr]; lia
 have new:ObjOk X.prog X.w (upd H1 l (.lst (ms.map V.int))) s'.heap l (.lst (ms.map V.int)):=⟨lp,out.toList,ee,Jm im,hl'⟩;refine⟨.ref l,upd H1 l (.lst (ms.map V.int)),I1.call' (s':=s') (ch:=[]) eo (Un.laid kk le (I1.hok.fresh le)) (I1.hok.laid kk le new) (by rw[eg]; exact I1.bare) (fun b z=>(nomatch z)),rfl,q l ms (I1.hok.fresh le) lt fun y=>?_⟩;rw[pm.mem_iff];exact mem y
end
end L2
namespace L2
open PySem PySem.Spec PyProof.Rows
def GN (K:zAb) (neg:Bool):R2:=fun x y H Q=>∃ a b xs,x = .ref a/\y = .ref b/\SqL K H a xs/\SqL K H b []/\Q (.bl (if neg then !xs.isEmpty else xs.isEmpty)) H
theorem DT {X:Cx} (hu:X.A.units<cLine):Ir X (compareOp .NotEq) (GN X.K true):=by
 intro pins s σ H x y v u Q I rx ry h;obtain⟨a,b,xs,rfl,rfl,h1,h2,q⟩:=h;cases rx;cases ry;obtain⟨its,r1,p1,z1⟩:=I.list h1;obtain⟨js,r2,p2,z2⟩:=I.list h2;cases r2;have l1:=r1.length;cases xs with
 | nil=>
  cases r1
  refine (SeqAt.RcNeAt.lists (e:=fun _=>true) p1.isList p2.isList rfl hu (fun j hj _=>absurd hj (by simp)):SeqAt.RcNeAt X.A s _ _ _) X.prog X.w _ _ ?_;exact⟨.bl false,H,I,rfl,q⟩
 | cons x xs=>
  refine (SeqAt.RcNeAt.lists_lengths p1.isList p2.isList (by rw[zAj] at l1; simp only [zAd,bne_iff_ne,ne_eq,List.length_nil]; lia) hu:SeqAt.RcNeAt X.A s _ _ _) X.prog X.w _ _ ?_;exact⟨.bl true,H,I,rfl,q⟩
inductive Co where
 | alw | cau (n:Str) | thi (n:Str) | day (a b:Int) | ovr (m:Int)
inductive Dx where
 | at (c:Co) | no (t:Dx) | al (ts:List Dx) | so (ts:List Dx)
structure A8 where
 a0:Addr
 a1:Addr
 a2:Addr
 a3:Addr
 a4:Addr
 a5:Addr
 a6:Addr
 a7:Addr
def A8.l (κ:A8):List Addr:=[κ.a0,κ.a1,κ.a2,κ.a3,κ.a4,κ.a5,κ.a6,κ.a7]
def A8.cl (κ:A8) (i:Nat):Addr:=κ.l.getD i 0
theorem A8.inj {κ:A8} (nd:κ.l.Nodup) {i j:Nat} (hi:i<8) (hj:j<8) (h:κ.cl i=κ.cl j):i=j:=by
 have hl:κ.l.length=8:=rfl;unfold A8.cl at h;rw[zAR,zAR,zAf (by lia),zAf (by lia)] at h;have p:=zBN.mp nd;rcases Nat.lt_trichotomy i j with c | c | c
 ·exact absurd h (p i j (by lia) (by lia) c)
 ·exact c
 ·exact absurd h.symm (p j i (by lia) (by lia) c)
def kd:Dx->Nat
 | .at .alw=>0
 | .at (.cau _)=>1
 | .at (.thi _)=>2
 | .at (.day _ _)=>3
 | .at (.ovr _)=>4
 | .no _=>5
 | .al _=>6
 | .so _=>7
theorem Oa (t:Dx):kd t<8:=by
 cases t with
 | «at» c=>cases c <;> simp [kd]
 | no t=>exact (by decide:5<8)
 | al ts=>exact (by decide:6<8)
 | so ts=>exact (by decide:7<8)
def A8.of (κ:A8) (t:Dx):Addr:=κ.cl (kd t)
def A8.Fam (κ:A8) (C:Addr):Prop:=C=κ.a0\/C=κ.a1\/C=κ.a2\/C=κ.a3\/C=κ.a4\/C=κ.a5\/C=κ.a6\/C=κ.a7
theorem A8.fam (κ:A8) (t:Dx):κ.Fam (κ.of t):=by
 cases t with
 | «at» c=>
  cases c with
  | alw=>exact .inl rfl
  | cau _=>exact .inr (.inl rfl)
  | thi _=>exact .inr (.inr (.inl rfl))
  | day _ _=>exact .inr (.inr (.inr (.inl rfl)))
  | ovr _=>exact .inr (.inr (.inr (.inr (.inl rfl))))
 | no t=>exact .inr (.inr (.inr (.inr (.inr (.inl rfl)))))
 | al ts=>exact .inr (.inr (.inr (.inr (.inr (.inr (.inl rfl))))))
 | so ts=>exact .inr (.inr (.inr (.inr (.inr (.inr (.inr rfl))))))
section
variable {κ:A8} {t:Dx}
theorem IA (nd:κ.l.Nodup) (h:κ.of t=κ.a0):t = .at .alw:=by
 have e:kd t=0:=A8.inj nd (Oa t) (by decide) h;cases t with
 | «at» c=>cases c <;> first | rfl | (simp [kd] at e)
 | _=>simp [kd] at e
theorem II (nd:κ.l.Nodup) (h:κ.of t=κ.a1):∃ n,t = .at (.cau n):=by
 have e:kd t=1:=A8.inj nd (Oa t) (by decide) h;cases t with
 | «at» c=>cases c <;> first | exact⟨_,rfl⟩ | (simp [kd] at e)
 | _=>simp [kd] at e
theorem IF (nd:κ.l.Nodup) (h:κ.of t=κ.a2):∃ n,t = .at (.thi n):=by
 have e:kd t=2:=A8.inj nd (Oa t) (by decide) h;cases t with
 | «at» c=>cases c <;> first | exact⟨_,rfl⟩ | (simp [kd] at e)
 | _=>simp [kd] at e
theorem IK (nd:κ.l.Nodup) (h:κ.of t=κ.a3):∃ a b,t = .at (.day a b):=by
 have e:kd t=3:=A8.inj nd (Oa t) (by decide) h;cases t with
 | «at» c=>cases c <;> first | exact⟨_,_,rfl⟩ | (simp [kd] at e)
 | _=>simp [kd] at e
theorem IM (nd:κ.l.Nodup) (h:κ.of t=κ.a4):∃ n,t = .at (.ovr n):=by
 have e:kd t=4:=A8.inj nd (Oa t) (by decide) h;cases t with
 | «at» c=>cases c <;> first | exact⟨_,rfl⟩ | (simp [kd] at e)
 | _=>simp [kd] at e
theorem HZ (nd:κ.l.Nodup) (h:κ.of t=κ.a5):∃ u,t = .no u:=by
 have e:kd t=5:=A8.inj nd (Oa t) (by decide) h;cases t with
 | «at» c=>cases c <;> simp [kd] at e
 | no u=>exact⟨_,rfl⟩
 | _=>simp [kd] at e
theorem IB (nd:κ.l.Nodup) (h:κ.of t=κ.a6):∃ u,t = .al u:=by
 have e:kd t=6:=A8.inj nd (Oa t) (by decide) h;cases t with
 | «at» c=>cases c <;> simp [kd] at e
 | al u=>exact⟨_,rfl⟩
 | _=>simp [kd] at e
theorem IL (nd:κ.l.Nodup) (h:κ.of t=κ.a7):∃ u,t = .so u:=by
 have e:kd t=7:=A8.inj nd (Oa t) (by decide) h;cases t with
 | «at» c=>cases c <;> simp [kd] at e
 | so u=>exact⟨_,rfl⟩
 | _=>simp [kd] at e
end
def Js:Co->List (Str×V)
 | .alw=>[]
 | .cau n=>Bl "name" (.str n) []
 | .thi n=>Bl "name" (.str n) []
 | .day a b=>Bl "last" (.int b) (Bl "first" (.int a) [])
 | .ovr m=>Bl "cents" (.int m) []
mutual
def CdAt (κ:A8) (H:Hp):V->Dx->Prop
 | v,.at c=>∃ p dx,v = .ref p/\H p=some (.ins (κ.of (.at c)) dx (Js c))
 | v,.no t=>∃ p dx w,v = .ref p/\H p=some (.ins κ.a5 dx (Bl "part" w []))/\CdAt κ H w t
 | v,.al ts=>∃ p dx l vs,v = .ref p/\H p=some (.ins κ.a6 dx (Bl "several" (.ref l) []))/\H l=some (.lst vs)/\CdsAt κ H vs ts
 | v,.so ts=>∃ p dx l vs,v = .ref p/\H p=some (.ins κ.a7 dx (Bl "several" (.ref l) []))/\H l=some (.lst vs)/\CdsAt κ H vs ts
def CdsAt (κ:A8) (H:Hp):List V->List Dx->Prop
 | [],[]=>True
 | v::vs,t::ts=>CdAt κ H v t/\CdsAt κ H vs ts
 | [],_::_=>False
 | _::_,[]=>False
end
mutual
def TrAt (H:Hp):V->Dx->Prop
 | v,.at .alw=>∃ p,v = .ref p/\H p=some (.tup [.str "always"])
 | v,.at (.cau n)=>∃ p,v = .ref p/\H p=some (.tup [.str "cause",.str n])
 | v,.at (.thi n)=>∃ p,v = .ref p/\H p=some (.tup [.str "thing",.str n])
 | v,.at (.day a b)=>∃ p,v = .ref p/\H p=some (.tup [.str "days",.int a,.int b])
 | v,.at (.ovr m)=>∃ p,v = .ref p/\H p=some (.tup [.str "over",.int m])
 | v,.no t=>∃ p w,v = .ref p/\H p=some (.tup [.str "not",w])/\TrAt H w t
 | v,.al ts=>∃ p l vs,v = .ref p/\H p=some (.tup [.str "all",.ref l])/\H l=some (.lst vs)/\TrsAt H vs ts
 | v,.so ts=>∃ p l vs,v = .ref p/\H p=some (.tup [.str "some",.ref l])/\H l=some (.lst vs)/\TrsAt H vs ts
def TrsAt (H:Hp):List V->List Dx->Prop
 | [],[]=>True
 | v::vs,t::ts=>TrAt H v t/\TrsAt H vs ts
 | [],_::_=>False
 | _::_,[]=>False
end
mutual
def Mb:Dx->Nat
 | .at _=>0
 | .no t=>Mb t+1
 | .al ts=>hgts ts+1
 | .so ts=>hgts ts+1
def hgts:List Dx->Nat
 | []=>0
 | t::ts=>max (Mb t) (hgts ts)
end
mutual
theorem CdAt.same {κ:A8} {H H':Hp} (s:Same H H'):∀ {v:V} (t:Dx),CdAt κ H v t->CdAt κ H' v t
 | v,.at c,h=>by
  unfold CdAt at h ⊢;obtain⟨p,dx,e,h⟩:=h;exact⟨p,dx,e,s _ _ h⟩
 | v,.no t,h=>by
  unfold CdAt at h ⊢;obtain⟨p,dx,w,e,h,r⟩:=h;exact⟨p,dx,w,e,s _ _ h,CdAt.same s t r⟩
 | v,.al ts,h=>by
  unfold CdAt at h ⊢;obtain⟨p,dx,l,vs,e,h,g,r⟩:=h;exact⟨p,dx,l,vs,e,s _ _ h,s _ _ g,CdsAt.same s ts r⟩
 | v,.so ts,h=>by
  unfold CdAt at h ⊢;obtain⟨p,dx,l,vs,e,h,g,r⟩:=h;exact⟨p,dx,l,vs,e,s _ _ h,s _ _ g,CdsAt.same s ts r⟩
theorem CdsAt.same {κ:A8} {H H':Hp} (s:Same H H'):∀ {vs:List V} (ts:List Dx),CdsAt κ H vs ts->CdsAt κ H' vs ts
 | [],[],_=>by unfold CdsAt; trivial
 | v::vs,t::ts,h=>by
  unfold CdsAt at h ⊢;exact⟨CdAt.same s t h.1,CdsAt.same s ts h.2⟩
 | [],_::_,h=>by unfold CdsAt at h; exact h.elim
 | _::_,[],h=>by unfold CdsAt at h; exact h.elim
end
mutual
theorem TrAt.same {H H':Hp} (s:Same H H'):∀ {v:V} (t:Dx),TrAt H v t->TrAt H' v t
 | v,.at .alw,h=>by unfold TrAt at h ⊢; obtain⟨p,e,h⟩:=h; exact⟨p,e,s _ _ h⟩
 | v,.at (.cau n),h=>by unfold TrAt at h ⊢; obtain⟨p,e,h⟩:=h; exact⟨p,e,s _ _ h⟩
 | v,.at (.thi n),h=>by unfold TrAt at h ⊢; obtain⟨p,e,h⟩:=h; exact⟨p,e,s _ _ h⟩
 | v,.at (.day a b),h=>by unfold TrAt at h ⊢; obtain⟨p,e,h⟩:=h; exact⟨p,e,s _ _ h⟩
 | v,.at (.ovr m),h=>by unfold TrAt at h ⊢; obtain⟨p,e,h⟩:=h; exact⟨p,e,s _ _ h⟩
 | v,.no t,h=>by
  unfold TrAt at h ⊢;obtain⟨p,w,e,h,r⟩:=h;exact⟨p,w,e,s _ _ h,TrAt.same s t r⟩
 | v,.al ts,h=>by
  unfold TrAt at h ⊢;obtain⟨p,l,vs,e,h,g,r⟩:=h;exact⟨p,l,vs,e,s _ _ h,s _ _ g,TrsAt.same s ts r⟩
 | v,.so ts,h=>by
  unfold TrAt at h ⊢;obtain⟨p,l,vs,e,h,g,r⟩:=h;exact⟨p,l,vs,e,s _ _ h,s _ _ g,TrsAt.same s ts r⟩
theorem TrsAt.same {H H':Hp} (s:Same H H'):∀ {vs:List V} (ts:List Dx),TrsAt H vs ts->TrsAt H' vs ts
 | [],[],_=>by unfold TrsAt; trivial
 | v::vs,t::ts,h=>by
  unfold TrsAt at h ⊢;exact⟨TrAt.same s t h.1,TrsAt.same s ts h.2⟩
 | [],_::_,h=>by unfold TrsAt at h; exact h.elim
 | _::_,[],h=>by unfold TrsAt at h; exact h.elim
end
theorem CdsAt.len {κ:A8} {H:Hp}:∀ {vs:List V} {ts:List Dx},CdsAt κ H vs ts->vs.length=ts.length
 | [],[],_=>rfl
 | v::vs,t::ts,h=>by
  unfold CdsAt at h;rw[zAj,zAj,CdsAt.len h.2]
 | [],_::_,h=>by unfold CdsAt at h; exact h.elim
 | _::_,[],h=>by unfold CdsAt at h; exact h.elim
theorem TrsAt.len {H:Hp}:∀ {vs:List V} {ts:List Dx},TrsAt H vs ts->vs.length=ts.length
 | [],[],_=>rfl
 | v::vs,t::ts,h=>by
  unfold TrsAt at h;rw[zAj,zAj,TrsAt.len h.2]
 | [],_::_,h=>by unfold TrsAt at h; exact h.elim
 | _::_,[],h=>by unfold TrsAt at h; exact h.elim
theorem CdsAt.get {κ:A8} {H:Hp}:∀ {vs:List V} {ts:List Dx} {i:Nat} {v:V},CdsAt κ H vs ts->vs[i]?=some v->∃ t,ts[i]?=some t/\CdAt κ H v t
 | [],[],_,_,_,e=>by simp at e
 | v::vs,t::ts,0,u,h,e=>by
  unfold CdsAt at h;simp at e;subst e;exact⟨t,rfl,h.1⟩
 | v::vs,t::ts,i+1,u,h,e=>by
  unfold CdsAt at h;obtain⟨t',e',r⟩:=CdsAt.get (i:=i) h.2 (by simpa using e);exact⟨t',by simpa using e',r⟩
 | [],_::_,_,_,h,_=>by unfold CdsAt at h; exact h.elim
 | _::_,[],_,_,h,_=>by unfold CdsAt at h; exact h.elim
theorem TrsAt.get {H:Hp}:∀ {vs:List V} {ts:List Dx} {i:Nat} {v:V},TrsAt H vs ts->vs[i]?=some v->∃ t,ts[i]?=some t/\TrAt H v t
 | [],[],_,_,_,e=>by simp at e
 | v::vs,t::ts,0,u,h,e=>by
  unfold TrsAt at h;simp at e;subst e;exact⟨t,rfl,h.1⟩
 | v::vs,t::ts,i+1,u,h,e=>by
  unfold TrsAt at h;obtain⟨t',e',r⟩:=TrsAt.get (i:=i) h.2 (by simpa using e);exact⟨t',by simpa using e',r⟩
 | [],_::_,_,_,h,_=>by unfold TrsAt at h; exact h.elim
 | _::_,[],_,_,h,_=>by unfold TrsAt at h; exact h.elim
theorem CdsAt.snoc {κ:A8} {H:Hp}:∀ {vs:List V} {ts:List Dx} {v:V} {t:Dx},CdsAt κ H vs ts->CdAt κ H v t->CdsAt κ H (vs++[v]) (ts++[t])
 | [],[],v,t,_,r=>by
  show CdsAt κ H [v] [t];unfold CdsAt;exact⟨r,by unfold CdsAt; trivial⟩
 | v::vs,t::ts,v',t',h,r=>by
  unfold CdsAt at h;show CdsAt κ H (v::(vs++[v'])) (t::(ts++[t']));unfold CdsAt;exact⟨h.1,CdsAt.snoc h.2 r⟩
 | [],_::_,_,_,h,_=>by unfold CdsAt at h; exact h.elim
 | _::_,[],_,_,h,_=>by unfold CdsAt at h; exact h.elim
theorem TrsAt.snoc {H:Hp}:∀ {vs:List V} {ts:List Dx} {v:V} {t:Dx},TrsAt H vs ts->TrAt H v t->TrsAt H (vs++[v]) (ts++[t])
 | [],[],v,t,_,r=>by
  show TrsAt H [v] [t];unfold TrsAt;exact⟨r,by unfold TrsAt; trivial⟩
 | v::vs,t::ts,v',t',h,r=>by
  unfold TrsAt at h;show TrsAt H (v::(vs++[v'])) (t::(ts++[t']));unfold TrsAt;exact⟨h.1,TrsAt.snoc h.2 r⟩
 | [],_::_,_,_,h,_=>by unfold TrsAt at h; exact h.elim
 | _::_,[],_,_,h,_=>by unfold TrsAt at h; exact h.elim
theorem Ur {ts:List Dx} {t:Dx} {m:Nat} (h:hgts ts<m) (i:Nat) (e:ts[i]?=some t):Mb t<m:=by
 induction ts generalizing i with
 | nil=>simp at e
 | cons u us ih=>
  unfold hgts at h;cases i with
  | zero=>simp at e; subst e; lia
  | succ i=>exact ih (by lia) i (by simpa using e)
theorem M1 (bs:List Bool):(!Pn (.bl false) (bs.map V.bl))=bs.all id:=by
 unfold Pn
 induction bs with
 | nil=>rfl
 | cons b bs ih=>
  rw[zAw,zBL,zBQ,<- ih];cases b <;> rfl
theorem Vd (bs:List Bool):Pn (.bl true) (bs.map V.bl)=bs.any id:=by
 unfold Pn
 induction bs with
 | nil=>rfl
 | cons b bs ih=>
  rw[zAw,zBL,zBL,<- ih];cases b <;> rfl
theorem GM:¬ (("first" : Str) = "last"):=by ac_nf
theorem Q4 (n:Str):(Js (.cau n)).lookup ("name" : Str)=some (.str n):=by unfold Js; rw[Bo,if_pos rfl]
theorem P5 (n:Str):(Js (.thi n)).lookup ("name" : Str)=some (.str n):=by unfold Js; rw[Bo,if_pos rfl]
theorem AK (a b:Int):(Js (.day a b)).lookup ("last" : Str)=some (.int b):=by unfold Js; rw[Bo,if_pos rfl]
theorem O8 (a b:Int):(Js (.day a b)).lookup ("first" : Str)=some (.int a):=by unfold Js; rw[Bo,if_neg GM,Bo,if_pos rfl]
theorem O6 (m:Int):(Js (.ovr m)).lookup ("cents" : Str)=some (.int m):=by unfold Js; rw[Bo,if_pos rfl]
theorem Za (f:Str) (v:V):(Bl f v []).lookup f=some v:=by rw[Bo,if_pos rfl]
theorem Fg {f g:Str} (h:¬ g=f) (v:V):(Bl f v []).lookup g=none:=by rw[Bo,if_neg h]; rfl
theorem B7 (c:Co) {m:Str} (h1:¬ m = "name") (h2:¬ m = "first") (h3:¬ m = "last") (h4:¬ m = "cents"):(Js c).lookup m=none:=by
 cases c with
 | alw=>rfl
 | cau n=>unfold Js; rw[Bo,if_neg h1]; rfl
 | thi n=>unfold Js; rw[Bo,if_neg h1]; rfl
 | day a b=>unfold Js; rw[Bo,if_neg h3,Bo,if_neg h2]; rfl
 | ovr m=>unfold Js; rw[Bo,if_neg h4]; rfl
theorem CdAt.obj {κ:A8} {H:Hp} {v:V} {t:Dx} (h:CdAt κ H v t):∃ p dx fs,v = .ref p/\H p=some (.ins (κ.of t) dx fs) /\
  fs.lookup ("holds" : Str)=none/\fs.lookup ("rank" : Str)=none/\fs.lookup ("words" : Str)=none/\fs.lookup ("marks" : Str)=none:=by
 cases t with
 | «at» c=>
  unfold CdAt at h;obtain⟨p,dx,e,h⟩:=h;exact⟨p,dx,_,e,h,B7 c (by ac_nf) (by ac_nf) (by ac_nf) (by ac_nf),B7 c (by ac_nf) (by ac_nf) (by ac_nf) (by ac_nf),B7 c (by ac_nf) (by ac_nf) (by ac_nf) (by ac_nf),B7 c (by ac_nf) (by ac_nf) (by ac_nf) (by ac_nf)⟩
 | no t=>
  unfold CdAt at h;obtain⟨p,dx,w,e,h,_⟩:=h;exact⟨p,dx,_,e,h,Fg (by ac_nf) _,Fg (by ac_nf) _,Fg (by ac_nf) _,Fg (by ac_nf) _⟩
 | al ts=>
  unfold CdAt at h;obtain⟨p,dx,l,vs,e,h,_⟩:=h;exact⟨p,dx,_,e,h,Fg (by ac_nf) _,Fg (by ac_nf) _,Fg (by ac_nf) _,Fg (by ac_nf) _⟩
 | so ts=>
  unfold CdAt at h;obtain⟨p,dx,l,vs,e,h,_⟩:=h;exact⟨p,dx,_,e,h,Fg (by ac_nf) _,Fg (by ac_nf) _,Fg (by ac_nf) _,Fg (by ac_nf) _⟩
def Nw (H H':Hp):Hp:=fun b=>match H b with
 | none=>H' b
 | some _=>none
theorem Nw.of {H H':Hp} {b:Addr} {o:HO} (h:H b=none) (e:H' b=some o):Nw H H' b=some o:=by
 unfold Nw;rw[h];exact e
theorem Nw.at {H H':Hp} {b:Addr} {o:HO} (e:Nw H H' b=some o):H b=none/\H' b=some o:=by
 unfold Nw at e;cases h:H b with
 | none=>rw[h] at e; exact⟨rfl,e⟩
 | some o'=>rw[h] at e; cases e
theorem Nw.grow {H H1 H2:Hp} (s:∀ b o,H b=none->H1 b=some o->H2 b=some o):Same (Nw H H1) (Nw H H2):=fun b o e=>Nw.of (Nw.at e).1 (s b o (Nw.at e).1 (Nw.at e).2)
mutual
def Ma (φ:Co->Prop):Dx->Prop
 | .at c=>φ c
 | .no t=>Ma φ t
 | .al ts=>2<=ts.length/\ts.length<=8/\okTs φ ts
 | .so ts=>2<=ts.length/\ts.length<=8/\okTs φ ts
def okTs (φ:Co->Prop):List Dx->Prop
 | []=>True
 | t::ts=>Ma φ t/\okTs φ ts
end
theorem C3 {φ:Co->Prop} {ts:List Dx} (h:∀ t∈ts,Ma φ t):okTs φ ts:=by
 induction ts with
 | nil=>unfold okTs; trivial
 | cons t ts ih=>unfold okTs; exact⟨h t zAo,ih fun u hu=>h u (zAm _ hu)⟩
theorem A0 {φ:Co->Prop} {ts:List Dx} (h:okTs φ ts):∀ t∈ts,Ma φ t:=by
 induction ts with
 | nil=>intro t ht; cases ht
 | cons t ts ih=>
  unfold okTs at h;intro u hu;rcases zAq.mp hu with rfl | hu
  ·exact h.1
  ·exact ih h.2 u hu
section
variable {R R':V->Dx->Prop} {vs ws:List V} {ts us:List Dx}
end
abbrev Gy:=Str×V
def Gv:Co->List Gy
 | .alw=>[]
 | .cau n=>[("cause",.str n)]
 | .thi n=>[("thing",.str n)]
 | .day a b=>[("day",.int a),("day",.int (b+1))]
 | .ovr m=>[("cents",.int m)]
mutual
def Bf:Dx->List Gy
 | .at c=>Gv c
 | .no t=>Bf t
 | .al ts=>marksTs ts
 | .so ts=>marksTs ts
def marksTs:List Dx->List Gy
 | []=>[]
 | t::ts=>Bf t++marksTs ts
end
def Mks (H:Hp):List V->List Gy->Prop
 | [],[]=>True
 | x::xs,m::ms=>(∃ t,x = .ref t/\H t=some (.tup [.str m.1,m.2]))/\Mks H xs ms
 | [],_::_=>False
 | _::_,[]=>False
def MkAt (H:Hp) (a:Addr) (ms:List Gy):Prop:=∃ xs,H a=some (.lst xs)/\Mks H xs ms
theorem Mks.mono {H H':Hp} (s:∀ t xs,H t=some (.tup xs)->H' t=some (.tup xs)):∀ {xs:List V} {ms:List Gy},Mks H xs ms->Mks H' xs ms
 | [],[],_=>trivial
 | [],_::_,h=>h.elim
 | _::_,[],h=>h.elim
 | x::xs,m::ms,⟨⟨t,e,h⟩,r⟩=>⟨⟨t,e,s _ _ h⟩,Mks.mono s r⟩
theorem Mks.len {H:Hp}:∀ {xs:List V} {ms:List Gy},Mks H xs ms->xs.length=ms.length
 | [],[],_=>rfl
 | [],_::_,h=>h.elim
 | _::_,[],h=>h.elim
 | x::xs,p::ps,h=>by rw[zAj,zAj,Mks.len h.2]
theorem Mks.get {H:Hp}:∀ {xs:List V} {ms:List Gy} {i:Nat} {m:Gy},Mks H xs ms->ms[i]?=some m->∃ t,xs[i]?=some (.ref t)/\H t=some (.tup [.str m.1,m.2])
 | [],[],_,_,_,e=>by simp at e
 | [],_::_,_,_,h,_=>h.elim
 | _::_,[],_,_,h,_=>h.elim
 | x::xs,m::ms,0,m',⟨⟨t,e,h⟩,r⟩,q=>by
  simp at q;subst q;exact⟨t,by rw[e]; rfl,h⟩
 | x::xs,m::ms,i+1,m',⟨_,r⟩,q=>by
  obtain⟨t,h1,h2⟩:=Mks.get (i:=i) r (by simpa using q);exact⟨t,by simpa using h1,h2⟩
theorem Mks.app {H:Hp}:∀ {xs ys:List V} {ms ns:List Gy},Mks H xs ms->Mks H ys ns->Mks H (xs++ys) (ms++ns)
 | [],_,[],_,_,g=>g
 | [],_,_::_,_,h,_=>h.elim
 | _::_,_,[],_,h,_=>h.elim
 | x::xs,ys,m::ms,ns,h,g=>⟨h.1,Mks.app h.2 g⟩
theorem MkAt.same {H H':Hp} {a:Addr} {ms:List Gy} (h:MkAt H a ms) (s:Same H H'):MkAt H' a ms:=by
 obtain⟨xs,e,r⟩:=h;exact⟨xs,s _ _ e,r.mono fun t xs z=>s _ _ z⟩
def U9 (ms:List Gy):Prop:=∀ m∈ms,(∃ z,m.2 = .str z)\/∃ i,m.2 = .int i
theorem AO (c:Co):U9 (Gv c):=by
 intro m hm;cases c <;> simp [Gv] at hm
 ·subst hm; exact .inl ⟨_,rfl⟩
 ·subst hm; exact .inl ⟨_,rfl⟩
 ·rcases hm with rfl | rfl <;> exact .inr ⟨_,rfl⟩
 ·subst hm; exact .inr ⟨_,rfl⟩
mutual
theorem A6:∀ t:Dx,U9 (Bf t)
 | .at c=>by unfold Bf; exact AO c
 | .no t=>by unfold Bf; exact A6 t
 | .al ts=>by unfold Bf; exact flatM_Ts ts
 | .so ts=>by unfold Bf; exact flatM_Ts ts
theorem flatM_Ts:∀ ts:List Dx,U9 (marksTs ts)
 | []=>by unfold marksTs; intro m hm; cases hm
 | t::ts=>by
  unfold marksTs;intro m hm;rcases zAW.mp hm with h | h
  ·exact A6 t m h
  ·exact flatM_Ts ts m h
end
theorem Uh (ts:List Dx) (t:Dx):marksTs (ts++[t])=marksTs ts++Bf t:=by
 induction ts with
 | nil=>
  have e:marksTs []=[]:=by unfold marksTs; rfl
  show marksTs [t]=_;rw[e,marksTs,e,zAT]; rfl
 | cons u us ih=>rw[List.cons_append,marksTs,ih,marksTs,zBM]
theorem Im {ts:List Dx} {t:Dx} (h:t∈ts):(Bf t).length<=(marksTs ts).length:=by
 induction ts with
 | nil=>cases h
 | cons u us ih=>
  unfold marksTs;rw[zAe];rcases zAq.mp h with rfl | h
  ·lia
  ·have:=ih h; lia
theorem Hn (ts:List Dx) (i:Nat):(marksTs (ts.take i)).length<=(marksTs ts).length:=by
 induction ts generalizing i with
 | nil=>rw[List.take_nil]; exact zAg _
 | cons u us ih=>
  cases i with
  | zero=>rw[zAY]; unfold marksTs; simp
  | succ i=>rw[List.take_succ_cons,marksTs,marksTs,zAe,zAe]; have:=ih i; lia
theorem Vk {u v:V} (hu:(∃ z,u = .str z)\/∃ i,u = .int i) (hv:(∃ z,v = .str z)\/∃ i,v = .int i):Sy u v=decide (u=v):=by
 rcases hu with ⟨z,rfl⟩ | ⟨i,rfl⟩ <;> rcases hv with ⟨y,rfl⟩ | ⟨j,rfl⟩
 ·show (z==y)=decide (V.str z=V.str y)
  rw[zBF,beq_iff_eq,decide_eq_true_iff];exact⟨fun e=>by rw[e],fun e=>V.str.inj e⟩
 ·exact (decide_eq_false (fun e=>nomatch e)).symm
 ·exact (decide_eq_false (fun e=>nomatch e)).symm
 ·show (i==j)=decide (V.int i=V.int j)
  rw[zBF,beq_iff_eq,decide_eq_true_iff];exact⟨fun e=>by rw[e],fun e=>V.int.inj e⟩
section
variable {wc:Co->List Str} {φ:Co->Prop}
end
section
variable {X:Cx} {k:Nat} {C:Addr} {m:Str} {ps:List Str} {sp:Sp} {e o:Expr} {es:List Expr} {apos pos:Pos} {ta:TE} {t:TA} {W:St->XK}
end
section
variable {wc:Co->List Str} {φ:Co->Prop} {af:List Str->Nat->Prop}
end
end L2
namespace L2
open PySem PySem.Spec PyProof PyProof.Rows
section
variable {X:Cx} {pins:List (Addr×Obj)} {σ:St} {H:Hp} {s:Shared} {e:Addr}
end
section
variable {M:Model} {A:Around} {E:Value->Shared->Prop} {env:Env}
variable {nm q:Str} {C N:Addr} {bs bm:List Value} {hdct:Bool} {sn:List Str} {sub:List Value} {ab:Bool} {col:Option Bool} {dd:Option Addr} {k0 k1 k2 k3 k5:Option Value} {newId:String}
end
section
variable {X:Cx} {x f:Str} {C:Addr} {np cpos pos apos:Pos} {e o value:Expr} {es:List Expr} {t:TA} {ta tv:TE} {W:St->XK}
end
section
variable {prog:Program} {w:World} {A:Around} {E:Value->Shared->Prop} {env:Env}
variable {nm q:Str} {C N:Addr} {bs bm:List Value} {hdct:Bool} {sn:List Str} {sub:List Value} {ab:Bool} {col:Option Bool} {dd:Option Addr} {k0 k1 k2 k3 k5:Option Value} {newId:String}
end
section
variable {X:Cx} {x f:Str} {C:Addr} {np cpos pos apos cp:Pos} {j:Nat} {e o value:Expr} {es:List Expr} {t:TA} {ta tv:TE} {W:St->XK}
end
section
variable {X:Cx} {x n:Str} {Ch:Addr} {i:Nat} {body suite:List Stmt} {b₀ : Stmt} {tb:(St->XK)->TS} {ts:TS} {np hpos pos:Pos} {pins:List (Addr×Obj)} {σ:St} {H:Hp} {s:Shared} {e:Addr} {oe:Obj}
end
theorem Ub {X:Cx} {K:zAb} {f:Str} {pos:Pos} {e:Expr} {ta:TE} (he:PE X e ta) (hb:attributeBase e f X.env (eval e X.env)=eval e X.env) (hK:X.K=K:=by rfl):PE X (.Attribute e f pos) (FS K ta f):=hK▸Er he hb
end L2
namespace CST
open PySem
section
variable {prog:Program} {w:World} {A:Around} {E:Value->Shared->Prop} {s:Shared}
variable {R:Result->Shared->Prop} {I:Addr} {fp wr:List Addr} {G:Array GenState->Array GenState->Prop} {n:Nat} {P:Nat->Value->Prop} {St:Nat->Shared->Prop}
theorem GSet.keepS {h h':Heap} {a:Addr} {ks:List Str} (g:GSet (strKind prog w) h a ks) (k:∀ o,h.get? a=some o->h'.get? a=some o):GSet (strKind prog w) h' a ks:=by
 obtain⟨o,es,ep,t,ho,r⟩:=g;exact⟨o,es,ep,t,k o ho,r⟩
theorem Va (W:WalksS prog w A.in1 I fp wr G n P St) (S:Addr) (nS:S∉fp) (val:Nat->Str) (hv:∀ i v,P i v->∃ t,v = .str (val i) t) (hb:n+1<scanBound) :
  ∀ (k i:Nat) (s:Shared) (ks:List Str),n-i=k->i<=n->St i s->GSet (strKind prog w) s.heap S ks->(∀ y,y∈ks↔∃ j,j<i/\val j=y)->ks.length<=i ->
   (∀ s' ks',Moved (S::wr) G s s'->GSet (strKind prog w) s'.heap S ks'->(∀ y,y∈ks'↔∃ j,j<n/\val j=y)->ks'.length<=n->R (.ok (.ret .none)) s') ->
   codeAny (model prog w) A (.builtin "set.update.loop" ⟨[.ref S,.ref I],[]⟩) R s:=by
 have nw:S∉wr:=fun z=>nS (W.sub _ z);have sub:∀ b∈wr,b∈S::wr:=fun b hb=>zAm _ hb;intro k
 induction k with
 | zero=>
  intro i s ks hk hi st g mem len fin;have e:i=n:=by lia
  subst e;refine codeAny_builtin PyProof.Rows.F.entry_set_update_loop ?_;rw[Around.under_plainId PyProof.Rows.F.plain_set_update_loop _];show wpAny _ A.in1 (pyNext (.ref I) >>= _) _ _ s;refine zCp (W.done s _ _ st fun s' hm=>?_);show wpAny _ A.in1 (ret Value.none) _ _ s';exact zCq (fin s' ks (hm.mono sub) (GSet.keepS g fun o e=>hm.heap S o nw e) mem len)
 | succ k ih=>
  intro i s ks hk hi st g mem len fin;refine codeAny_builtin PyProof.Rows.F.entry_set_update_loop ?_;rw[Around.under_plainId PyProof.Rows.F.plain_set_update_loop _];show wpAny _ A.in1 (pyNext (.ref I) >>= _) _ _ s;refine zCp (W.item i s _ _ (by lia) st fun v s' hP st' hm=>?_);obtain⟨tk,rfl⟩:=hv i v hP;have g':=GSet.keepS g fun o e=>hm.heap S o nw e;show wpAny _ A.in1 (holding [Value.str (val i) tk] (setAdd S (.str (val i) tk)) >>= _) _ _ s';refine zCp (wpAny_holding ?_);unfold setAdd;refine wpAny_holding (zCp ((strKind prog w).pyHash (k:=val i) (strKind_is _ _ _ _) ?_));refine BR (knd:=strKind prog w) (s:={ s' with toks:=s'.toks+1 }) (strKind_is _ _ _ _) rfl g' (by lia) fun b h' ks' sb g2 pm=>?_;have len':ks'.length<=i+1:=by
   rw[pm.length_eq]
   split
   ·lia
   ·rw[zAe,List.length_singleton]; lia
  have mem':∀ y,y∈ks'↔∃ j,j<i+1/\val j=y:=fun y=>by
   rw[pm.mem_iff];constructor
   ·intro hy
    split at hy
    ·obtain⟨j,h1,h2⟩:=(mem y).mp hy
     exact⟨j,by lia,h2⟩
    ·rcases zAW.mp hy with z | z
     ·obtain⟨j,h1,h2⟩:=(mem y).mp z
      exact⟨j,by lia,h2⟩
     ·exact⟨i,by lia,(zAk.mp z).symm⟩
   ·rintro ⟨j,h1,h2⟩
    have old:∀ {z},z∈ks->z∈(if val i∈ks then ks else ks++[val i]):=fun {z} hz=>by
     split
     ·exact hz
     ·exact zBE _ hz
    by_cases c:j<i
    ·exact old ((mem y).mpr ⟨j,c,h2⟩)
    ·have e:j=i:=by lia
     subst e
     split
     ·rw[<- h2]; assumption
     ·rw[<- h2]; exact zAI _ (zAk.mpr rfl)
  refine zCq ⟨plainId_quiet PyProof.Rows.F.plain_set_update_loop _,ih (i+1) _ ks' (by lia) (by lia) (W.frame _ s' _ _ st' (zBn _) fun b hb o e=>?_) g2 mem' len' fun s2 ks2 hm2 g3 m3 l3=>?_⟩
  ·rw[sb.2 b (fun z:b=S=>nS (by rw[<- z]; exact hb))]; exact e
  ·refine fin s2 ks2 (Moved.trans W.gtrans ((hm.mono sub).then_heap (zBn _) fun b o hb e=>?_) hm2) g3 m3 l3
   rw[sb.2 b (fun z:b=S=>hb (by rw[z]; exact zAo))]; exact e
end
section
variable {prog:Program} {w:World} {A:Around} {E:Value->Shared->Prop} {s:Shared}
theorem F7 {h:Heap} {a:Addr} (ho:h.get? a=some (He w)):GSet (strKind prog w) h a []:=by
 refine⟨_,#[],0,_,ho,⟨rfl,rfl,rfl⟩,rfl,.nil,List.nodup_nil,by decide,rfl,?_⟩;exact Pt (w.params.followText "set-order")
theorem set_of_strs {l:Addr} {items:Array Value} {ns:List Str} {Q:Value->Shared->Prop} (hh:A.handled=none) (hl:s.heap.IsList l items) (hi:∀ (i:Nat) (v:Value),items[i]?=some v->∃ t,v = .str (ns.getD i Str.empty) t) (ln:items.size=ns.length) (hb:items.size+1<scanBound)
  (h:∀ (h':Heap) (tk:Nat) (ks:List Str),GSet (strKind prog w) h' s.heap.objs.size ks->(∀ y,y∈ks↔y∈ns)->ks.length<=items.size->(∀ b o,s.heap.get? b=some o->h'.get? b=some o)->Q (.ref s.heap.objs.size) { s with heap:=h',toks:=tk }) :
  wpAny (model prog w) A (call (.type "set") [.ref l]) Q E s:=by
 obtain⟨c,tl,hmro⟩:=F.called_set.mro;have hmade:=F.called_set.made;have hsub:=F.called_set.sub;have h1:=F.called_set.notType;have h2:=F.called_set.canCreate;have hct:=F.typeCall_set_1 (.ref l);refine wpAny_call (codeAny_of_tree (show wpAny _ _ (callAny (.type "set") _) _ _ _ from ?_));refine zCq ⟨Code.quiet_builtin _ (by ac_nf),codeAny_builtin F.entry_type_call ?_⟩;rw[Around.under_plain (weight_type_call_type "set" [.ref l] []) rfl]
 repeat (any_goals (first | assumption | wp_step))
 refine codeAny_mono (Zt (x:=.ref l) (E:=E) (Q:=fun v s₁ => v = .ref s.heap.objs.size/\s₁ = { s with heap:=s.heap.push (He w) }) ⟨rfl,rfl⟩) fun r s₁ hr=>?_;cases r with
 | error e=>exact hr
 | ok fl=>
  cases fl with
  | ret obj=>
   obtain⟨rfl,rfl⟩:=hr;have at0:(s.heap.push (He w)).get? s.heap.objs.size=some (He w):=zAv _ rfl;have hT:Shared.TypeIs { s with heap:=s.heap.push (He w) } (.ref s.heap.objs.size) "set" := ⟨_,at0,rfl⟩;have hli:=F.called_set.init.lookup;have hbi:=F.called_set.init.bind (.ref s.heap.objs.size)
   repeat (any_goals (first | assumption | wp_step))
   refine codeAny_mono (codeAny_call_builtin (R:=wants (fun r s₂ => r = .none/\∃ h' tk ks,s₂ = { s with heap:=h',toks:=tk }/\GSet (strKind prog w) h' s.heap.objs.size ks/\(∀ y,y∈ks↔y∈ns)/\ks.length<=items.size/\(∀ b o,s.heap.get? b=some o->h'.get? b=some o)) E)
    F.called_set.init.plain F.entry_set_init (check_set_init_1 hT ?_)) fun r₂ s₂ hr₂ => ?_
   ·obtain⟨⟨oc,od,odt,osl⟩,hol,hcl,nl,hdl⟩:=id hl
    simp only at hcl hdl;subst hcl hdl;have old:(s.heap.push (He w)).get? l=some { cls:=.type "list",dict:=od,data:=.seq items nl,slots:=osl }:=zAc _ hol;have il:(s.heap.push (He w)).IsList l items:=⟨_,old,rfl,nl,rfl⟩;have lt:l<s.heap.objs.size:=zAr hol;have u1:=F.sub_list_set;have u2:=F.sub_list_frozenset;have u3:(Value.type "list" == Value.type "dict")=false:=by decide
    unfold Builtin.«set.__init__» noKeywords Builtin.Frozenset.updateFrom;generalize hPI:pyIter=PI
    wp_walk
    subst hPI;refine wpAny_pyIter_list il (zCp (wpAny_runValue ?_));have sz:(s.heap.push (He w)).objs.size=s.heap.objs.size+1:=zBt ..;have ne:l≠(s.heap.push (He w)).objs.size:=by rw[sz]; exact zAs (zAU lt)
    have h3:A.in1.in1.in1.handled=none:=by simp [hh]
    have nf:s.heap.objs.size∉[(s.heap.push (He w)).objs.size,l]:=by
     rw[sz];intro z;rcases zAq.mp z with z | z
     ·exact absurd z (zAs (zBy _))
     ·exact absurd (zAk.mp z) (zAG lt)
    have hv:∀ (i:Nat) (v:Value),items[i]?=some v->∃ t,v = .str ((fun i=>ns.getD i Str.empty) i) t:=hi;refine Va ((Walks.list h3 _ l ne items).toS) s.heap.objs.size nf (fun i=>ns.getD i Str.empty) hv hb (items.size-0) 0 _ [] (by lia) (zAC _) ⟨⟨_,zAv _ rfl,rfl,rfl⟩,il.push _⟩ (F7 (zAc _ at0)) (fun y=>⟨fun z=>(nomatch z),fun ⟨j,z,_⟩=>absurd z (zBc _)⟩) (zAC _) fun s' ks hm g m ln'=>?_;obtain⟨h',g',d',tk',os'⟩:=s';have eg:g'=s.gens:=hm.gens;have ed:d'=s.drawn:=hm.drawn;have eo:os'=s.os:=hm.os;subst eg ed eo;refine zCq (zCq ⟨rfl,h',tk',ks,rfl,g,fun y=>?_,ln',fun b o e=>?_⟩)
    ·rw[m y]
     constructor
     ·rintro ⟨j,z1,z2⟩
      rw[<- z2];show ns.getD j Str.empty∈ns;rw[zAR,zAf (by lia)];exact zBg _
     ·intro z
      obtain⟨j,hj,e⟩:=zBh z;refine⟨j,by lia,?_⟩;show ns.getD j Str.empty=y;rw[zAR,zAf hj];exact e
    ·refine hm.heap b o (fun z=>?_) (zAc _ (zAc _ e))
     have lb:=zAr e;rcases zAq.mp z with z | z
     ·exact absurd z (zAs lb)
     ·exact absurd (zAk.mp z) (by rw[sz]; exact zAs (zAU lb))
   ·cases r₂ with
    | error e=>exact hr₂
    | ok fl₂ =>
     cases fl₂ with
     | ret r=>
      obtain⟨rfl,h',tk,ks,rfl,g,m,ln,k⟩:=hr₂
      repeat (any_goals (first | assumption | wp_step))
      exact h _ _ ks g m ln k
     | _=>exact hr₂.elim
  | _=>exact hr.elim
end
end CST
namespace L2
open PySem PySem.Spec PyProof PyProof.Rows
section
variable {α:Type} [DecidableEq α]
theorem Lw:∀ {ks ss:List α},ks.Nodup->(∀ y∈ks,y∈ss)->ks.length<=ss.length
 | [],_,_,_=>zAC _
 | k::ks,ss,nd,h=>by
  rw[zBp] at nd;have hk:=h k zAo;have ih:=Lw (ks:=ks) (ss:=ss.erase k) nd.2 fun y hy=>(List.mem_erase_of_ne (fun z=>nd.1 (by rw[<- z]; exact hy))).mpr (h y (zAm _ hy));rw[zCh hk] at ih;have:0<ss.length:=zCl hk;rw[zAj]
  lia
theorem Xj:∀ {ss:List α},¬ ss.Nodup->∃ x,x∈ss/\x∈ss.erase x
 | [],h=>absurd List.nodup_nil h
 | y::t,h=>by
  by_cases c:y∈t
  ·exact⟨y,zAo,by rw[List.erase_cons_head]; exact c⟩
  ·obtain⟨x,h1,h2⟩:=Xj (ss:=t) (fun z=>h (zBp.mpr ⟨c,z⟩))
   have ne:¬ (y==x)=true:=fun z=>c (by rw[beq_iff_eq.mp z]; exact h1);exact⟨x,zAm _ h1,by rw[List.erase_cons_tail ne]; exact zAm _ h2⟩
theorem V7 {ks ss:List α} (nd:ks.Nodup) (m:∀ y,y∈ks↔y∈ss):(ss.Nodup->ks.length=ss.length)/\(¬ ss.Nodup->ks.length<ss.length):=by
 refine⟨fun h=>Nat.le_antisymm (Lw nd fun y hy=>(m y).mp hy) (Lw h fun y hy=>(m y).mpr hy),fun h=>?_⟩;obtain⟨x,h1,h2⟩:=Xj h;have:=Lw (ss:=ss.erase x) nd fun y hy=>by
  by_cases c:y=x
  ·rw[c]; exact h2
  ·exact (List.mem_erase_of_ne c).mpr ((m y).mp hy)
 rw[zCh h1] at this;have:0<ss.length:=zCl h1
 lia
end
theorem D0:∀ {ss:List Str} {us:List Value},Vals (ss.map V.str) us->∀ (i:Nat) (v:Value),us[i]?=some v->∃ t,v = .str (ss.getD i Str.empty) t
 | [],_,.nil,i,v,e=>by simp at e
 | _::_,_::_,.cons r _,0,v,e=>by
  simp at e;subst e;obtain⟨t,rfl⟩:=r;exact⟨t,rfl⟩
 | _::ss,_::us,.cons _ q,i+1,v,e=>by
  obtain⟨t,rfl⟩:=D0 q i v (by simpa using e);exact⟨t,by simp⟩
def Z5 (K:zAb) (te:TE):TE:=fun σ H Q=>te σ H fun x H1=>∃ a ss,x = .ref a/\SqL K H1 a (List.map V.str ss)/\ss.length<60/\∀ n:Nat,(ss.Nodup->n=ss.length)->(¬ ss.Nodup->n<ss.length)->Q (.int (n:Int)) H1
section
variable {X:Cx}
theorem G5 {e:Expr} {te:TE} {p1 p2 pos1 pos2:Pos} (he:PE X e te) (hc:X.calm=true) (hg1:Gl X "len") (hm1:X.mg "len" = none) (hg2:Gl X "set") (hm2:X.mg "set" = none)
  (hv1:zCs "len" = some (.builtin "len"):=by rfl) (hv2:zCs "set" = some (.type "set"):=by rfl)
  (hs1:starEach [.Call (.Name "set" p2) [e] [] pos2] X.env=[(false,eval (.Call (.Name "set" p2) [e] [] pos2) X.env)]:=by rfl) (hs2:starEach [e] X.env=[(false,eval e X.env)]:=by rfl) :
  PE X (.Call (.Name "len" p1) [.Call (.Name "set" p2) [e] [] pos2] [] pos1) (Z5 X.K te):=by
 intro pins s σ H Q I h;refine wpAny_Call_Name_kw (Dy I hg1 hm1 hv1 ?_ (by decide) (by decide));refine PyProof.Rows.callWith_builtin1 ?_ hs1 rfl;rw[hs1];show wpAny _ _ (spliced ((false,eval (.Call (.Name "set" p2) [e] [] pos2) X.env)::backTo pos1 [])) _ _ s;refine Calls.spliced_cons ?_;refine wpAny_Call_Name_kw (Dy I hg2 hm2 hv2 ?_ (by decide) (by decide));refine PyProof.Rows.callWith_type1 ?_ hs2 rfl;rw[hs2];show wpAny _ _ (spliced ((false,eval e X.env)::backTo pos2 [])) _ _ s;refine Calls.spliced_cons (Cn (he pins s σ H _ I h) fun u s1 ⟨x,H1,I1,r1,a,ss,ex,hq,l60,q⟩=>?_);subst ex;cases r1;refine Calls.spliced_nil ?_;obtain⟨its,rv,pl,hz⟩:=I1.list hq;have hl:=rv.length;rw[zAa] at hl;have hh:X.A.handled=none:=I.ok.hd hc;have hv:∀ (i:Nat) (v:Value),its.toArray[i]?=some v->∃ t,v = .str (ss.getD i Str.empty) t:=fun i v e=>by
  rw[zBS] at e;exact D0 rv i v e
 refine CST.set_of_strs (items:=its.toArray) (ns:=ss) hh pl.isList hv (by rw[zAd]; exact hl.symm) (by rw[zAd]; unfold scanBound; lia) fun h2 tk ks g mem len k2=>?_;refine Calls.spliced_nil ?_;rw[zAd] at len;obtain⟨o,es,ep,t,ho,hex,hd,hp,nd,hsz,hf,_⟩:=g;obtain⟨z1,z2⟩:=V7 nd mem;have le:es.size=ks.length:=by rw[<- zAx]; exact hp.length
 refine call_len_set (s:={ s1 with heap:=h2,toks:=tk }) ho hex hd hf (by lia) ?_;exact⟨.int (ks.length:Int),H1,I1.kept (h':=h2) k2,⟨_,by rw[le]⟩,q ks.length z1 z2⟩
end
theorem Q1 {l:List Nat} {tc:TT} {te:TE} {σ:St} {ix:List Nat} {QQ:Hp->Prop} {H1:Hp} {p:Addr} (Pv:Nat->List V->Hp->Prop) (h0:Pv 0 [] (upd H1 p (.lst [])))
  (hp:∀ i ys H,i<=l.length->Pv i ys H->H p=some (.lst ys)/\ys.length<=i) (hn:l.length<=sizeLine)
  (hs:∀ i c ys H,l[i]?=some c->Pv i ys H->tc (some (.str (tx [c]))::Dq ix σ) H fun b H5=>if b=true then te (some (.str (tx [c]))::Dq ix σ) H5 fun y H6=>H6 p=some (.lst ys) /\
   (some (V.str (tx [c]))::Dq ix σ)=(some (.str (tx [c]))::Dq ix σ)/\Pv (i+1) (ys++[y]) (upd H6 p (.lst (ys++[y]))) else (some (V.str (tx [c]))::Dq ix σ)=(some (.str (tx [c]))::Dq ix σ)/\Pv (i+1) ys H5)
  (hd:∀ ys H,Pv l.length ys H->QQ H) :
  Sw (Dw 0) tc te 1 ix σ (BV (tx l)) p H1 QQ:=by
 have hz:(tx l).cps.size=l.length:=by simp [tx]
 refine⟨fun i m ys σ2 H2=>m=l.length-i/\i<=l.length/\(∃ o,σ2=o::Dq ix σ)/\Pv i ys H2,⟨l.length,by simp,zAC _,⟨none,rfl⟩,h0⟩,?_⟩;rintro i m ys σ2 H2 ⟨rfl,hi,⟨o,rfl⟩,pv⟩;obtain⟨hp2,hl2⟩:=hp i ys H2 hi pv;refine⟨hp2,?_⟩;by_cases hlt:i<l.length
 ·refine .inr ⟨by show i<(tx l).cps.size; lia,by lia,fun x H3 y=>?_⟩
  obtain⟨e,c,hc,y⟩:=y;subst e y;exact⟨fun ys' σ' H'=>σ'=(some (.str (tx [c]))::Dq ix σ)/\Pv (i+1) ys' H',fun ys' σ' H' ⟨e,q⟩=>⟨l.length-(i+1),by lia,rfl,hlt,⟨_,e⟩,q⟩,hs i c ys _ (by simpa [tx] using hc) pv⟩
 ·have e:i=l.length:=by lia
  subst e;exact .inl ⟨by show (tx l).cps.size<=l.length; lia,hd ys H2 pv⟩
end L2
namespace L2
open PySem PySem.Spec PyProof.Rows PySem.W
section
variable {prog:Program} {w:World} {A:Around} {E:Value->Shared->Prop} {s:Shared}
end
section
variable {X:Cx}
end
end L2
namespace L2
open PySem PySem.Spec PyProof.Rows
section
variable {α:Type} {f:α->List V}
end
section
variable {prog:Program} {w:World} {A:Around} {E:Value->Shared->Prop} {s:Shared} {d v it:Addr} {ob:Obj} {es:Array DictEntry} {ep:Nat}
end
section
variable {X:Cx} {pins:List (Addr×Obj)} {σ:St} {H:Hp} {s:Shared} {a:Addr} {u u':HO} {ob:Obj}
end
structure DfIn (K:zAb) (x:Str) (st:Stmt) (f:Addr):Prop where
 ns:zAH K zCu x=some (some (.ref f))
 ex:∃ (od an:Option Addr) (sl:Array (Option Value)) (oc kV dc pm cd ct:Value),K.lookup f=some ⟨oc,od,.func (zAV x x (De st) (Cs st) (An st) .none kV dc pm an cd ct),sl⟩/\zBu K cd x=true
 kp:zAX K (.ref f)=true
structure MtIn (K:zAb) (x qual:Str) (st:Stmt) (f:Addr):Prop where
 fn:zCf K (.ref f)=true
 ex:∃ (od an:Option Addr) (sl:Array (Option Value)) (oc kV dc pm cd ct:Value),K.lookup f=some ⟨oc,od,.func (zAV x qual (De st) (Cs st) (An st) .none kV dc pm an cd ct),sl⟩/\zBu K cd qual=true
 kp:zAX K (.ref f)=true
structure ClIn (K:zAb) (x:Str) (C:Addr):Prop where
 ns:zAH K zCu x=some (some (.ref C))
 pg:zBT K C Str.empty=true
 hd:zCk K C=true
 po:PySem.W.plainOver K C=true
 sa:zAh K (.ref C) "__setattr__" = some (some (.builtin "object.__setattr__"))
 mi:zCc K C=true
 kp:zAX K (.ref C)=true
theorem ClIn.cl {K:zAb} {x:Str} {C:Addr} (c:ClIn K x C):Cls K C:=⟨c.pg,c.hd,c.po,c.sa⟩
section
variable {K:zAb} {h:Heap} {mg:Str->Option Value} {x qual:Str} {st:Stmt} {f:Addr} {ps:List Str}
theorem DfIn.df (d:DfIn K x st f) (X:K.In h) (G:h.Ns zCu mg)
  (hb:∀ (kV dc pm:Value) (an:Option Addr) (cd ct:Value) (us:List Value),us.length=ps.length->bindArgs (zAV x x (De st) (Cs st) (An st) .none kV dc pm an cd ct) ⟨us,[]⟩=pure (ps.zip us)):Def K mg x st ps:=by
 obtain⟨od,an,sl,oc,kV,dc,pm,cd,ct,l,c⟩:=d.ex;have F:=Ys (x:=x) (qual:=x) (st:=st) l c d.kp;exact⟨f,_,F,F.binds hb,zAF X G d.ns⟩
theorem MtIn.get (d:MtIn K x qual st f)
  (hb:∀ (kV dc pm:Value) (an:Option Addr) (cd ct:Value) (us:List Value),us.length=ps.length->bindArgs (zAV x qual (De st) (Cs st) (An st) .none kV dc pm an cd ct) ⟨us,[]⟩=pure (ps.zip us)):∃ fd,Fun K x qual st f fd/\Binds K fd ps []:=by
 obtain⟨od,an,sl,oc,kV,dc,pm,cd,ct,l,c⟩:=d.ex;have F:=Ys (x:=x) (qual:=qual) (st:=st) l c d.kp;exact⟨_,F,F.binds hb⟩
end
section
variable {Pr:List Value->Prop}
theorem Ny (h:∀ a,Pr [a]):∀ us,us.length=1->Pr us
 | [a],_=>h a
theorem Xm (h:∀ a b,Pr [a,b]):∀ us,us.length=2->Pr us
 | [a,b],_=>h a b
theorem BY (h:∀ a b c,Pr [a,b,c]):∀ us,us.length=3->Pr us
 | [a,b,c],_=>h a b c
theorem HD (h:∀ a b c d,Pr [a,b,c,d]):∀ us,us.length=4->Pr us
 | [a,b,c,d],_=>h a b c d
theorem HY (h:∀ a b c d e,Pr [a,b,c,d,e]):∀ us,us.length=5->Pr us
 | [a,b,c,d,e],_=>h a b c d e
end
theorem vE {α β:Type} {f:α->β} {y:β} {v:α} {R:α->Prop} (e:y=f v) (h:R v):∃ x,y=f x/\R x:=⟨v,e,h⟩
theorem DfIn.of {K:zAb} {x:Str} {st:Stmt} {f:Addr} {od an:Option Addr} {sl:Array (Option Value)} {oc kV dc pm cd ct:Value} (n:zAH K zCu x=some (some (.ref f))) (l:K.lookup f=some ⟨oc,od,.func (zAV x x (De st) (Cs st) (An st) .none kV dc pm an cd ct),sl⟩) (c:zBu K cd x=true) (k:zAX K (.ref f)=true):DfIn K x st f:=⟨n,⟨od,an,sl,oc,kV,dc,pm,cd,ct,l,c⟩,k⟩
theorem MtIn.of {K:zAb} {x qual:Str} {st:Stmt} {f:Addr} {od an:Option Addr} {sl:Array (Option Value)} {oc kV dc pm cd ct:Value} (n:zCf K (.ref f)=true) (l:K.lookup f=some ⟨oc,od,.func (zAV x qual (De st) (Cs st) (An st) .none kV dc pm an cd ct),sl⟩) (c:zBu K cd qual=true) (k:zAX K (.ref f)=true):MtIn K x qual st f:=⟨n,⟨od,an,sl,oc,kV,dc,pm,cd,ct,l,c⟩,k⟩
theorem vF {α β γ δ:Type} {f:α->β} {g : γ -> δ} {x:β} {y:δ} {a:α} {b : γ} {R:α -> γ -> Prop} (e:x=f a) (e':y=g b) (h:R a b):∃ i j,x=f i/\y=g j/\R i j:=⟨a,b,e,e',h⟩
theorem vI {x y:V} {A:Addr->List V->Prop} {B:List V->Int->V->Prop} {R:V->Prop} {p:Addr} {xs:List V} {i:Int} {v:V} (e:x = .ref p) (e':y = .int i) (a:A p xs) (b:B xs i v) (h:R v):∃ p xs i v,x = .ref p/\y = .int i/\A p xs/\B xs i v/\R v:=⟨p,xs,i,v,e,e',a,b,h⟩
theorem vC {α:Type} {l:List α} {a:α} {t:List α} {R:α->List α->Prop} (e:l=a::t) (h:R a t):∃ v r,l=v::r/\R v r:=⟨a,t,e,h⟩
end L2
namespace CST
open PySem PyProof.Rows
section
variable {prog:Program} {w:World} {A:Around} {E:Value->Shared->Prop} {s:Shared}
theorem Nq:∀ {l:List (Int×Value)} {ks:List Str},Paired (AW (PySem.strKind prog w)) l ks->StrsAre (l.map (·.2)) ks
 | _,_,.nil=>.nil
 | e::l,k::ks,.cons r t=>by
  obtain⟨tk,h⟩:=Value.isStrOf_shape r.1;rw[zAw,h];exact .cons k tk (Nq t)
theorem F5:∀ {vs us:List Value},vs.Perm us->∀ {ns:List Str},StrsAre us ns->∃ ms:List Str,StrsAre vs ms/\ms.Perm ns:=by
 intro vs us p;have q:=p.symm;clear p
 induction q with
 | nil=>intro ns h; exact⟨ns,h,List.Perm.refl _⟩
 | cons x _ ih=>
  intro ns h;cases h with
  | cons n t r=>
   obtain⟨ms,h1,h2⟩:=ih r;exact⟨n::ms,.cons n t h1,h2.cons n⟩
 | swap x y l=>
  intro ns h;cases h with
  | cons n t r=>
   cases r with
   | cons m u r2=>exact⟨_,.cons m u (.cons n t r2),List.Perm.swap _ _ _⟩
 | trans _ _ ih1 ih2=>
  intro ns h;obtain⟨m1,h1,p1⟩:=ih1 h;obtain⟨m2,h2,p2⟩:=ih2 h1;exact⟨m2,h2,p2.trans p1⟩
theorem sorted_setS {a:Addr} {ks:List Str} {Q:Value->Shared->Prop} (hh:A.handled=none) (g:GSet (PySem.strKind prog w) s.heap a ks) (h64:ks.length<64)
  (h:∀ (s':Shared) (l:Addr) (out:Array Value) (ms:List Str) (e:Nat),StrsAre out.toList ms->ms.Perm ks->sortedS ms=true->(∀ b o,s.heap.get? b=some o->s'.heap.get? b=some o)->a<l->s'.heap.get? l=some (seqObj "list" out e)->s'.gens=s.gens->s'.os=s.os->Q (.ref l) s') :
  wpAny (model prog w) A (call (.builtin "sorted") [.ref a]) Q E s:=by
 obtain⟨o,es,ep,t,ho,hex,hd,hp,nd,hb,hf,gd⟩:=g;have lk:es.size=ks.length:=by rw[<- zAx]; exact Paired.length hp
 have line:es.size<=sizeLine:=by rw[zCr]; lia
 refine Calls.call_function_entry kind_sorted plain_sorted entry_sorted (args_sorted1 _) ?_;unfold Builtin.«sorted»;refine zCp (m:=checkCount "sorted" 1 1 _) (zCq (zCp (Od (by exact hh) hex.1 ho hd hf gd line fun s' vs pm k eg eo=>?_)));have lv:vs.length=ks.length:=by rw[pm.length_eq,zAa,zAx,lk]
 obtain⟨ms,im,mp⟩:=F5 pm (Nq hp);refine zCp (wpAny_newList ?_ (by rw[lv,<- lk]; exact line));have at1:(s'.heap.push (seqObj "list" vs.toArray 0)).get? s'.heap.objs.size=some (seqObj "list" vs.toArray 0):=zAv _ rfl;refine zCp (wpAny_holding (wpAny_call_entry slot_list_sort ⟨_,at1,rfl⟩ entry_list_sort (list_sort_treeK (s:={ s' with heap:=s'.heap.push (seqObj "list" vs.toArray 0) }) strKind_oneLt at1 im.keysOf (fun v₁ v₂ rest e=>keyKind_strs (by rw[<- e]; exact im)) (by lia) fun st' hq hs=>⟨_,rfl,?_⟩) (args_list_sort _)));obtain⟨ns',a1,a2,a3⟩:=sorted_out_str im hq hs;refine zCq ⟨_,rfl,?_⟩;generalize (arrOf st').map (·.2)=out at a1;obtain⟨e,he⟩:=sortedHeap_at (out:=out) at1;have lt:∀ b ob,s.heap.get? b=some ob->b<s'.heap.objs.size:=fun b ob z=>zAr (k b ob z);refine h _ s'.heap.objs.size out ns' e a1 (a2.trans mp) a3 (fun b ob z=>?_) ?_ he eg eo
 ·show (sortedHeap _ _ _ _).get? b=_
  rw[sortedHeap_old (zAs (lt b ob z)) (by rw[size_push']; exact zAU (lt b ob z))];exact zAc _ (k b ob z)
 ·exact lt a o ho
end
end CST
namespace L2
open PySem PySem.Spec PyProof.Rows PySem.W
theorem Jr:∀ {us:List Value} {ns:List Str},StrsAre us ns->Vals (ns.map V.str) us
 | _,_,.nil=>.nil
 | _,_,.cons n t r=>.cons ⟨t,rfl⟩ (Jr r)
theorem Vi {us:List Value} {ns:List Str} (r:Vals (ns.map V.str) us):∀ (i:Nat) (v:Value),us.toArray[i]?=some v->∃ t,v = .str (ns.getD i Str.empty) t:=fun i v e=>by
 rw[zBS] at e;have il:i<ns.length:=by
  have:=(zAp.mp e).1;have l:=r.length;rw[zAa] at l
  lia
 obtain⟨w',hw,rw'⟩:=r.get (i:=i) (x:=V.str ns[i]) (by rw[zAl,zAf il]; rfl);rw[e] at hw;cases hw;rw[zAR,zAf il];exact rw'
section
variable {X:Cx}
def L6 (K:zAb) (te:TE):TE:=fun σ H Q=>te σ H fun x H1=>∃ (a:Addr) (ns:List Str),x = .ref a/\SqL K H1 a (ns.map V.str)/\ns.length<63 /\
 ∀ (l:Addr) (ms:List Str),H1 l=none->ms.Nodup->sortedS ms=true->(∀ y,y∈ms↔y∈ns)->Q (.ref l) (upd H1 l (.lst (ms.map V.str)))
theorem BM {e:Expr} {te:TE} {p1 p2 pos1 pos2:Pos} (he:PE X e te) (hc:X.calm=true) (hg1:Gl X "sorted") (hm1:X.mg "sorted" = none) (hg2:Gl X "set") (hm2:X.mg "set" = none)
  (hv1:zCs "sorted" = some (.builtin "sorted"):=by rfl) (hv2:zCs "set" = some (.type "set"):=by rfl)
  (hs1:starEach [.Call (.Name "set" p2) [e] [] pos2] X.env=[(false,eval (.Call (.Name "set" p2) [e] [] pos2) X.env)]:=by rfl) (hs2:starEach [e] X.env=[(false,eval e X.env)]:=by rfl) :
  PE X (.Call (.Name "sorted" p1) [.Call (.Name "set" p2) [e] [] pos2] [] pos1) (L6 X.K te):=by
 intro pins s σ H Q I h;refine wpAny_Call_Name_kw (Dy I hg1 hm1 hv1 ?_ (by decide) (by decide));refine PyProof.Rows.callWith_builtin1 ?_ hs1 rfl;rw[hs1];show wpAny _ _ (spliced ((false,eval (.Call (.Name "set" p2) [e] [] pos2) X.env)::backTo pos1 [])) _ _ s;refine Calls.spliced_cons ?_;refine wpAny_Call_Name_kw (Dy I hg2 hm2 hv2 ?_ (by decide) (by decide));refine PyProof.Rows.callWith_type1 ?_ hs2 rfl;rw[hs2];show wpAny _ _ (spliced ((false,eval e X.env)::backTo pos2 [])) _ _ s;refine Calls.spliced_cons (Cn (he pins s σ H _ I h) fun u s1 ⟨x,H1,I1,r1,a,ns,ex,hq,l64,q⟩=>?_);subst ex;cases r1;refine Calls.spliced_nil ?_;obtain⟨its,rv,pl,hz⟩:=I1.list hq;have hl:=rv.length;rw[zAa] at hl;have hh:X.A.handled=none:=I.ok.hd hc;refine CST.set_of_strs (items:=its.toArray) (ns:=ns) hh pl.isList (Vi rv) (by rw[zAd]; lia) (by rw[zAd]; unfold scanBound; lia) fun h2 tk ks g mem len k2=>?_;refine Calls.spliced_nil ?_;rw[zAd] at len;refine CST.sorted_setS (s:={ s1 with heap:=h2,toks:=tk }) hh g (by lia) fun s' l out ms ee im pm pw k3 al hl' eg eo=>?_;have nd:ms.Nodup:=by
  obtain⟨_,_,_,_,_,_,_,_,nd,_⟩:=g;exact pm.nodup_iff.mpr nd
 have kk:∀ b ob,s1.heap.get? b=some ob->s'.heap.get? b=some ob:=fun b ob z=>k3 b ob (k2 b ob z);have le:s1.heap.objs.size<=l:=zBD al;have lp:(ms.map V.str).length<=sizeLine:=by rw[zAa,pm.length_eq,zCr]; lia
 have new:ObjOk X.prog X.w (upd H1 l (.lst (ms.map V.str))) s'.heap l (.lst (ms.map V.str)):=⟨lp,out.toList,ee,Jr im,hl'⟩;refine⟨.ref l,upd H1 l (.lst (ms.map V.str)),I1.call' (s':=s') (ch:=[]) eo (Un.laid kk le (I1.hok.fresh le)) (I1.hok.laid kk le new) (by rw[eg]; exact I1.bare) (fun b z=>(nomatch z)),rfl,q l ms (I1.hok.fresh le) nd pw fun y=>?_⟩;rw[pm.mem_iff];exact mem y
def I0 (K:zAb) (te:TE):TE:=fun σ H Q=>te σ H fun x H1=>
 (∃ (a:Addr) (ns:List Int),x = .ref a/\SqL K H1 a (ns.map V.int)/\ns.length<64/\∀ (l:Addr) (ms:List Int),H1 l=none->ms.Pairwise (· < ·)->(∀ y,y∈ms↔y∈ns)->Q (.ref l) (upd H1 l (.lst (ms.map V.int)))) \/
 (∃ (a:Addr) (ns:List Str),x = .ref a/\SqL K H1 a (ns.map V.str)/\ns.length<63/\∀ (l:Addr) (ms:List Str),H1 l=none->ms.Nodup->sortedS ms=true->(∀ y,y∈ms↔y∈ns)->Q (.ref l) (upd H1 l (.lst (ms.map V.str))))
theorem Wg {e:Expr} {te:TE} {p1 p2 pos1 pos2:Pos} (he:PE X e te) (hc:X.calm=true) (hg1:Gl X "sorted") (hm1:X.mg "sorted" = none) (hg2:Gl X "set") (hm2:X.mg "set" = none)
  (hv1:zCs "sorted" = some (.builtin "sorted"):=by rfl) (hv2:zCs "set" = some (.type "set"):=by rfl)
  (hs1:starEach [.Call (.Name "set" p2) [e] [] pos2] X.env=[(false,eval (.Call (.Name "set" p2) [e] [] pos2) X.env)]:=by rfl) (hs2:starEach [e] X.env=[(false,eval e X.env)]:=by rfl) :
  PE X (.Call (.Name "sorted" p1) [.Call (.Name "set" p2) [e] [] pos2] [] pos1) (I0 X.K te):=by
 intro pins s σ H Q I h;refine wpAny_Call_Name_kw (Dy I hg1 hm1 hv1 ?_ (by decide) (by decide));refine PyProof.Rows.callWith_builtin1 ?_ hs1 rfl;rw[hs1];show wpAny _ _ (spliced ((false,eval (.Call (.Name "set" p2) [e] [] pos2) X.env)::backTo pos1 [])) _ _ s;refine Calls.spliced_cons ?_;refine wpAny_Call_Name_kw (Dy I hg2 hm2 hv2 ?_ (by decide) (by decide));refine PyProof.Rows.callWith_type1 ?_ hs2 rfl;rw[hs2];show wpAny _ _ (spliced ((false,eval e X.env)::backTo pos2 [])) _ _ s;refine Calls.spliced_cons (Cn (he pins s σ H _ I h) fun u s1 ⟨x,H1,I1,r1,hAB⟩=>?_);rcases hAB with ⟨a,ns,ex,hq,l64,q⟩ | ⟨a,ns,ex,hq,l64,q⟩
 ·subst ex
  cases r1
  refine Calls.spliced_nil ?_;obtain⟨its,rv,pl,hz⟩:=I1.list hq;have hl:=rv.length;rw[zAa] at hl;have hh:X.A.handled=none:=I.ok.hd hc;refine CST.set_of_list (items:=its.toArray) (ns:=ns) hh pl.isList (Lm rv) (by rw[zAd]; unfold scanBound; lia) fun h2 tk ks g mem len k2=>?_;refine Calls.spliced_nil ?_;rw[zAd] at len;refine CST.sorted_set (s:={ s1 with heap:=h2,toks:=tk }) hh g (by lia) fun s' l out ms ee im pm pw k3 al hl' eg eo=>?_;have nd:ms.Nodup:=by
   obtain⟨_,_,_,_,_,_,_,_,nd,_⟩:=g;exact pm.nodup_iff.mpr nd
  have lt:=Eu pw nd;have kk:∀ b ob,s1.heap.get? b=some ob->s'.heap.get? b=some ob:=fun b ob z=>k3 b ob (k2 b ob z);have le:s1.heap.objs.size<=l:=zBD al;have lp:(ms.map V.int).length<=sizeLine:=by rw[zAa,pm.length_eq,zCr]; lia
  have new:ObjOk X.prog X.w (upd H1 l (.lst (ms.map V.int))) s'.heap l (.lst (ms.map V.int)):=⟨lp,out.toList,ee,Jm im,hl'⟩;refine⟨.ref l,upd H1 l (.lst (ms.map V.int)),I1.call' (s':=s') (ch:=[]) eo (Un.laid kk le (I1.hok.fresh le)) (I1.hok.laid kk le new) (by rw[eg]; exact I1.bare) (fun b z=>(nomatch z)),rfl,q l ms (I1.hok.fresh le) lt fun y=>?_⟩;rw[pm.mem_iff];exact mem y
 ·subst ex
  cases r1
  refine Calls.spliced_nil ?_;obtain⟨its,rv,pl,hz⟩:=I1.list hq;have hl:=rv.length;rw[zAa] at hl;have hh:X.A.handled=none:=I.ok.hd hc;refine CST.set_of_strs (items:=its.toArray) (ns:=ns) hh pl.isList (Vi rv) (by rw[zAd]; lia) (by rw[zAd]; unfold scanBound; lia) fun h2 tk ks g mem len k2=>?_;refine Calls.spliced_nil ?_;rw[zAd] at len;refine CST.sorted_setS (s:={ s1 with heap:=h2,toks:=tk }) hh g (by lia) fun s' l out ms ee im pm pw k3 al hl' eg eo=>?_;have nd:ms.Nodup:=by
   obtain⟨_,_,_,_,_,_,_,_,nd,_⟩:=g;exact pm.nodup_iff.mpr nd
  have kk:∀ b ob,s1.heap.get? b=some ob->s'.heap.get? b=some ob:=fun b ob z=>k3 b ob (k2 b ob z);have le:s1.heap.objs.size<=l:=zBD al;have lp:(ms.map V.str).length<=sizeLine:=by rw[zAa,pm.length_eq,zCr]; lia
  have new:ObjOk X.prog X.w (upd H1 l (.lst (ms.map V.str))) s'.heap l (.lst (ms.map V.str)):=⟨lp,out.toList,ee,Jr im,hl'⟩;refine⟨.ref l,upd H1 l (.lst (ms.map V.str)),I1.call' (s':=s') (ch:=[]) eo (Un.laid kk le (I1.hok.fresh le)) (I1.hok.laid kk le new) (by rw[eg]; exact I1.bare) (fun b z=>(nomatch z)),rfl,q l ms (I1.hok.fresh le) nd pw fun y=>?_⟩;rw[pm.mem_iff];exact mem y
end
end L2
namespace L2
open PySem PySem.Spec PyProof.Rows
def Sa (h:Heap) (z TI TO T:Addr) (f:Bool):Prop:=
 h.get? z=some { cls:=.type "zip",dict:=none,data:=.fields #[rawInt T,.bool f,.bool false,.ref TI,.ref TO],slots := #[] }
section
variable {prog:Program} {w:World} {A:Around} {E:Value->Shared->Prop} {s:Shared}
theorem N3 {a:Addr} {o:Obj} {Q:Option Obj->Shared->Prop} (ho:s.heap.get? a=some o) (h:Q (some o) s):wpAny (model prog w) A (loadIfAlive a) Q E s:=by
 have h':Q (s.heap.get? a) s:=by rw[ho]; exact h
 exact fun _ _ _=>h'
theorem B9 {z TI TO T:Addr} {f:Bool} {oT:Obj} {Q:Bool->Shared->Prop} (hz:Sa s.heap z TI TO T f) (hT:s.heap.get? T=some oT)
  (h:∀ h',Sa h' z TI TO T true->zBm z s.heap h'->Q false { s with heap:=h' }):wpAny (model prog w) A (Builtin.SmallTypes.ownedTupleIsFree (.ref z)) Q E s:=by
 unfold Builtin.SmallTypes.ownedTupleIsFree;refine zCp (wpAny_field hz rfl (x:=rawInt T) rfl ?_);show wpAny _ _ (loadIfAlive (Int.toNat (T:Int)) >>= _) _ _ _;rw[Int.toNat_natCast];refine zCp (N3 hT ?_);simp only [Option.isNone_some,zBA,if_false];refine zCp (wpAny_field hz rfl (x:=.bool f) rfl ?_);cases f with
 | true=>
  rw[if_neg (by decide)];exact zCq (h s.heap hz (zBm.refl ..))
 | false=>
  rw[if_pos (by decide)];refine zCp (wpAny_setField_rec hz (by simp) fun h1 hz1 hs1=>zCq (h h1 hz1 hs1))
theorem Y9 {z TI TO i1 i2 l1 l2 T:Addr} {f:Bool} {oT:Obj} {k1 k2:Nat} {xs ys:Array Value} {x y:Value} {Q:Value->Shared->Prop} (D:ZipApart z TI TO i1 i2 l1 l2)
  (hz:Sa s.heap z TI TO T f) (hT:s.heap.get? T=some oT) (hTI:IsPair s.heap TI (.ref i1) (.ref i2))
  (h1:s.heap.IsListIter i1 l1 k1) (h2:s.heap.IsListIter i2 l2 k2) (hl1:s.heap.IsList l1 xs) (hl2:s.heap.IsList l2 ys) (hx:xs[k1]?=some x) (hy:ys[k2]?=some y)
  (hQ:∀ h',Sa h' z TI TO T true->h'.IsListIter i1 l1 (k1+1)->h'.IsListIter i2 l2 (k2+1)->IsPair h' s.heap.objs.size x y->h'.objs.size=s.heap.objs.size+1 ->
   (∀ c o,c≠z->c≠i1->c≠i2->s.heap.get? c=some o->h'.get? c=some o)->Q (.ref s.heap.objs.size) { s with heap:=h' }) :
  wpAny (model prog w) A (Builtin.«zip.__next__» ⟨[.ref z],[]⟩) (fun fin s'=>∃ v,fin = .done (.ret v)/\Q v s') E s:=by
 show wpAny _ _ (field (.ref z) 2 >>= _) _ _ _;refine zCp (wpAny_field hz rfl (x:=.bool false) rfl ?_);show wpAny _ _ (field (.ref z) 3 >>= _) _ _ _;refine zCp (wpAny_field hz rfl (x:=.ref TI) rfl ?_);refine zCp (wpAny_seqItems hTI rfl ?_);show wpAny _ _ (Builtin.SmallTypes.ownedTupleIsFree (.ref z) >>= _) _ _ _;refine zCp (B9 hz hT fun h₁ hz₁ hs₁ => ?_);simp only [zBA,if_false];refine zCp ?_;simp only [<- Array.forIn_toList,List.forIn_cons,List.forIn_nil];refine zCp (zCp (wpAny_holding ?_));show wpAny _ _ (Builtin.SmallTypes.nextOf (.ref i1) >>= _) _ _ _;refine zCp (wpAny_nextOf_list_item (h1.extBut hs₁.extBut D.i1z) (hl1.extBut hs₁.extBut D.l1z) hx fun h₂ h1₂ hs₂ => zCq ?_);refine zCq ?_;refine zCp (zCp (wpAny_holding ?_));show wpAny _ _ (Builtin.SmallTypes.nextOf (.ref i2) >>= _) _ _ _;refine zCp (wpAny_nextOf_list_item ((h2.extBut hs₁.extBut D.i2z).extBut hs₂.extBut D.i12.symm) ((hl2.extBut hs₁.extBut D.l2z).extBut hs₂.extBut D.l2i1) hy fun h₃ h2₃ hs₃ => zCq ?_);refine zCq (zCq ?_);refine zCp (wpAny_newTuple ?_ (hsz:=Ce (by show 2<=1000; decide)));have hsz:h₃.objs.size=s.heap.objs.size:=by rw[hs₃.1,hs₂.1,hs₁.1]
 have hz₃ : Sa h₃ z TI TO T true:=hs₃.extBut _ _ D.i2z.symm (hs₂.extBut _ _ D.i1z.symm hz₁);have h1₃ : h₃.IsListIter i1 l1 (k1+1):=h1₂.extBut hs₃.extBut D.i12;refine zCq ⟨_,rfl,?_⟩;show Q (.ref h₃.objs.size) _;rw[hsz];refine hQ _ (zAc _ hz₃) (h1₃.at fun o e=>zAc _ e) (h2₃.at fun o e=>zAc _ e) ?_ (by rw[zBt,hsz]) fun c o c1 c2 c3 e=>zAc _ (hs₃.extBut _ _ c3 (hs₂.extBut _ _ c2 (hs₁.extBut _ _ c1 e)));rw[<- hsz];exact zAv _ rfl
theorem CJ {z TI TO i1 i2 l1 l2 T:Addr} {f:Bool} {oT:Obj} {k1 k2:Nat} {xs ys:Array Value} {Q:Fin->Shared->Prop} (hh:A.handled=none) (D:ZipApart z TI TO i1 i2 l1 l2)
  (hz:Sa s.heap z TI TO T f) (hT:s.heap.get? T=some oT) (hTI:IsPair s.heap TI (.ref i1) (.ref i2))
  (h1:s.heap.IsListIter i1 l1 k1) (h2:s.heap.IsListIter i2 l2 k2) (hl1:s.heap.IsList l1 xs) (hl2:s.heap.IsList l2 ys) (hend:xs[k1]?=none\/ys[k2]?=none)
  (hE:∀ h' e,(∀ c o,c≠z->c≠i1->c≠i2->s.heap.get? c=some o->h'.get? c=some o)->(∃ o,h'.get? e=some o/\o.cls = .type "StopIteration")->E (.ref e) { s with heap:=h' }) :
  wpAny (model prog w) A (Builtin.«zip.__next__» ⟨[.ref z],[]⟩) Q E s:=by
 show wpAny _ _ (field (.ref z) 2 >>= _) _ _ _;refine zCp (wpAny_field hz rfl (x:=.bool false) rfl ?_);show wpAny _ _ (field (.ref z) 3 >>= _) _ _ _;refine zCp (wpAny_field hz rfl (x:=.ref TI) rfl ?_);refine zCp (wpAny_seqItems hTI rfl ?_);show wpAny _ _ (Builtin.SmallTypes.ownedTupleIsFree (.ref z) >>= _) _ _ _;refine zCp (B9 hz hT fun h₁ hz₁ hs₁ => ?_);simp only [zBA,if_false];refine zCp ?_;simp only [<- Array.forIn_toList,List.forIn_cons,List.forIn_nil];refine zCp (zCp (wpAny_holding ?_));show wpAny _ _ (Builtin.SmallTypes.nextOf (.ref i1) >>= _) _ _ _;cases hx:xs[k1]? with
 | none=>
  refine zCp (wpAny_nextOf_list_end hh (h1.extBut hs₁.extBut D.i1z) (hl1.extBut hs₁.extBut D.l1z) hx fun h₂ e hs₂ he=>?_);exact hE h₂ e (fun c o c1 c2 _ x=>hs₂ _ _ c2 (hs₁.extBut _ _ c1 x)) he
 | some x=>
  have hy:ys[k2]?=none:=by rcases hend with h | h; rw[hx] at h; cases h; exact h
  refine zCp (wpAny_nextOf_list_item (h1.extBut hs₁.extBut D.i1z) (hl1.extBut hs₁.extBut D.l1z) hx fun h₂ h1₂ hs₂ => zCq ?_);refine zCq ?_;refine zCp (zCp (wpAny_holding ?_));show wpAny _ _ (Builtin.SmallTypes.nextOf (.ref i2) >>= _) _ _ _;refine zCp (wpAny_nextOf_list_end hh ((h2.extBut hs₁.extBut D.i2z).extBut hs₂.extBut D.i12.symm) ((hl2.extBut hs₁.extBut D.l2z).extBut hs₂.extBut D.l2i1) hy fun h₃ e hs₃ he=>?_);exact hE h₃ e (fun c o c1 c2 c3 x=>hs₃ _ _ c3 (hs₂.extBut _ _ c2 (hs₁.extBut _ _ c1 x))) he
theorem D7 {z TI TO i1 i2 l1 l2 T:Addr} {f:Bool} {oT:Obj} {k1 k2:Nat} {xs ys:Array Value} {x y:Value} {Q:Option Value->Shared->Prop} (D:ZipApart z TI TO i1 i2 l1 l2)
  (hz:Sa s.heap z TI TO T f) (hT:s.heap.get? T=some oT) (hTI:IsPair s.heap TI (.ref i1) (.ref i2))
  (h1:s.heap.IsListIter i1 l1 k1) (h2:s.heap.IsListIter i2 l2 k2) (hl1:s.heap.IsList l1 xs) (hl2:s.heap.IsList l2 ys) (hx:xs[k1]?=some x) (hy:ys[k2]?=some y)
  (hQ:∀ h',Sa h' z TI TO T true->h'.IsListIter i1 l1 (k1+1)->h'.IsListIter i2 l2 (k2+1)->IsPair h' s.heap.objs.size x y->h'.objs.size=s.heap.objs.size+1 ->
   (∀ c o,c≠z->c≠i1->c≠i2->s.heap.get? c=some o->h'.get? c=some o)->Q (some (.ref s.heap.objs.size)) { s with heap:=h' }) :
  wpAny (model prog w) A (pyNext (.ref z)) Q E s:=by
 have hTy:s.TypeIs (.ref z) "zip" := ⟨_,hz,rfl⟩;unfold pyNext;exact zCp (wpAny_attempt (wpAny_callSpecial?_slot (name:=Str.ofString "__next__") hTy F.slot_zip_next
  (wpAny_call_entry F.slot_zip_next hTy F.entry_zip_next
   (Y9 D hz hT hTI h1 h2 hl1 hl2 hx hy fun h' a1 a3 a4 a5 a6 a7=>zCq (hQ h' a1 a3 a4 a5 a6 a7)) (F.args_zip_next_1 _))))
theorem Rk {z TI TO i1 i2 l1 l2 T:Addr} {f:Bool} {oT:Obj} {k1 k2:Nat} {xs ys:Array Value} {Q:Option Value->Shared->Prop} (hh:A.handled=none) (D:ZipApart z TI TO i1 i2 l1 l2)
  (hz:Sa s.heap z TI TO T f) (hT:s.heap.get? T=some oT) (hTI:IsPair s.heap TI (.ref i1) (.ref i2))
  (h1:s.heap.IsListIter i1 l1 k1) (h2:s.heap.IsListIter i2 l2 k2) (hl1:s.heap.IsList l1 xs) (hl2:s.heap.IsList l2 ys) (hend:xs[k1]?=none\/ys[k2]?=none)
  (hQ:∀ h',(∀ c o,c≠z->c≠i1->c≠i2->s.heap.get? c=some o->h'.get? c=some o)->Q none { s with heap:=h' }):wpAny (model prog w) A (pyNext (.ref z)) Q E s:=by
 have hTy:s.TypeIs (.ref z) "zip" := ⟨_,hz,rfl⟩;unfold pyNext;refine zCp (wpAny_attempt (wpAny_callSpecial?_slot (name:=Str.ofString "__next__") hTy F.slot_zip_next
  (wpAny_call_entry F.slot_zip_next hTy F.entry_zip_next (CJ hh D hz hT hTI h1 h2 hl1 hl2 hend fun h' e hk he=>?_) (F.args_zip_next_1 _))))
 obtain⟨o,ho,hc⟩:=he;refine zCp (wpAny_isInstance (T := "StopIteration") (b:=true) ⟨o,ho,hc⟩ isSubtype_stop ?_);exact zCq (hQ _ hk)
def ZS (z TI TO i1 i2 l1 l2:Addr) (xs ys:Array Value) (i:Nat) (h:Heap):Prop:=
 IsPair h TI (.ref i1) (.ref i2)/\h.IsListIter i1 l1 i/\h.IsListIter i2 l2 i/\h.IsList l1 xs/\h.IsList l2 ys /\
 ((IsZip h z TI TO .none/\∃ a b,IsPair h TO a b)\/∃ T f a b,Sa h z TI TO T f/\IsPair h T a b)
theorem ZS.at {z TI TO i1 i2 l1 l2:Addr} {xs ys:Array Value} {i:Nat} {h h':Heap} (Z:ZS z TI TO i1 i2 l1 l2 xs ys i h) {S:Addr} {acc:Array Value} {c:Nat} (hS:h.get? S=some { cls:=.type "list",dict:=none,data:=.seq acc c,slots := #[] }) (n1:S≠l1) (n2:S≠l2)
  (k:∀ b o,b≠S->h.get? b=some o->h'.get? b=some o):ZS z TI TO i1 i2 l1 l2 xs ys i h':=by
 obtain⟨a1,a2,a3,a4,a5,a6⟩:=Z;have ne:∀ {b:Addr} {o:Obj},h.get? b=some o->o.cls ≠ .type "list" -> b≠S:=fun {b o} e hn x=>by
  rw[x,hS] at e;cases e;exact hn rfl
 have nt:(Value.type "tuple") ≠ .type "list" := by ac_nf
 have nz:(Value.type "zip") ≠ .type "list" := by ac_nf
 have ki:∀ {b l:Addr},h.IsListIter b l i->h'.IsListIter b l i:=fun {b l} hi=>by
  obtain⟨o,e,c,r⟩:=hi;exact⟨o,k _ _ (ne e (by rw[c]; decide +kernel)) e,c,r⟩
 refine⟨k _ _ (ne a1 nt) a1,ki a2,ki a3,a4.at fun o e=>k _ _ n1.symm e,a5.at fun o e=>k _ _ n2.symm e,?_⟩;rcases a6 with ⟨b1,a,b,b2⟩ | ⟨T,f,a,b,b1,b2⟩
 ·exact .inl ⟨k _ _ (ne b1 nz) b1,a,b,k _ _ (ne b2 nt) b2⟩
 ·exact .inr ⟨T,f,a,b,k _ _ (ne b1 nz) b1,k _ _ (ne b2 nt) b2⟩
theorem X0 {z TI TO i1 i2 l1 l2:Addr} {i:Nat} {xs ys:Array Value} {x y:Value} {Q:Option Value->Shared->Prop} (D:ZipApart z TI TO i1 i2 l1 l2) (Z:ZS z TI TO i1 i2 l1 l2 xs ys i s.heap) (hx:xs[i]?=some x) (hy:ys[i]?=some y)
  (hQ:∀ h',ZS z TI TO i1 i2 l1 l2 xs ys (i+1) h'->IsPair h' s.heap.objs.size x y->h'.objs.size=s.heap.objs.size+1 ->
   (∀ c o,c≠z->c≠TO->c≠i1->c≠i2->s.heap.get? c=some o->h'.get? c=some o)->Q (some (.ref s.heap.objs.size)) { s with heap:=h' }) :
  wpAny (model prog w) A (pyNext (.ref z)) Q E s:=by
 obtain⟨a1,a2,a3,a4,a5,a6⟩:=Z;rcases a6 with ⟨b1,a,b,b2⟩ | ⟨T,f,a,b,b1,b2⟩
 ·refine wpAny_pyNext_zip_item D b1 a1 b2 a2 a3 a4 a5 hx hy fun h' c1 c2 c3 c4 c5 c6 k=>hQ h' ⟨k _ _ D.TIz D.TITO D.TIi1 D.TIi2 a1,c3,c4,a4.at fun o e=>k _ _ D.l1z D.l1TO D.l1i1 D.l1i2 e,a5.at fun o e=>k _ _ D.l2z D.l2TO D.l2i1 D.l2i2 e,.inr ⟨_,false,_,_,c1,c5⟩⟩ c5 c6 k
 ·have nz:T≠z:=fun e=>by
   rw[e] at b2;have:=congrArg (Option.map Obj.cls) (b1.symm.trans b2);exact absurd (Option.some.inj this) (show (Value.type "zip") ≠ .type "tuple" from by ac_nf)
  have ni:∀ {q l:Addr},s.heap.IsListIter q l i->T≠q:=fun {q l} ⟨o,e,c,_⟩ x=>by
   rw[<- x,b2] at e;cases e;exact absurd c (show (Value.type "tuple") ≠ .type "list_iterator" from by ac_nf)
  refine D7 D b1 b2 a1 a2 a3 a4 a5 hx hy fun h' c1 c3 c4 c5 c6 k=>hQ h' ⟨k _ _ D.TIz D.TIi1 D.TIi2 a1,c3,c4,a4.at fun o e=>k _ _ D.l1z D.l1i1 D.l1i2 e,a5.at fun o e=>k _ _ D.l2z D.l2i1 D.l2i2 e,.inr ⟨T,true,a,b,c1,k _ _ nz (ni a2) (ni a3) b2⟩⟩ c5 c6 fun c o n1 _ n3 n4 e=>k c o n1 n3 n4 e
theorem DR {z TI TO i1 i2 l1 l2:Addr} {i:Nat} {xs ys:Array Value} {Q:Option Value->Shared->Prop} (hh:A.handled=none) (D:ZipApart z TI TO i1 i2 l1 l2) (Z:ZS z TI TO i1 i2 l1 l2 xs ys i s.heap) (hend:xs[i]?=none\/ys[i]?=none)
  (hQ:∀ h',(∀ c o,c≠z->c≠TO->c≠i1->c≠i2->s.heap.get? c=some o->h'.get? c=some o)->Q none { s with heap:=h' }):wpAny (model prog w) A (pyNext (.ref z)) Q E s:=by
 obtain⟨a1,a2,a3,a4,a5,a6⟩:=Z;rcases a6 with ⟨b1,a,b,b2⟩ | ⟨T,f,a,b,b1,b2⟩
 ·exact wpAny_pyNext_zip_end hh D b1 a1 b2 a2 a3 a4 a5 hend hQ
 ·exact Rk hh D b1 b2 a1 a2 a3 a4 a5 hend fun h' k=>hQ h' fun c o n1 _ n3 n4 e=>k c o n1 n3 n4 e
end
def PrsOf (lo:Nat) (h:Heap) (xs ys acc:Array Value) (i:Nat):Prop:=
 ∃ ts:List Addr,acc=(ts.map Value.ref).toArray/\ts.length=i/\ts.Pairwise (· < ·)/\(∀ t∈ts,lo<=t/\t<h.objs.size)/\∀ (j:Nat) (t:Addr),ts[j]?=some t->∃ x y,xs[j]?=some x/\ys[j]?=some y/\IsPair h t x y
theorem PrsOf.mono {lo:Nat} {h h':Heap} {xs ys acc:Array Value} {i:Nat} (p:PrsOf lo h xs ys acc i) (k:∀ c o,lo<=c->h.get? c=some o->h'.get? c=some o):PrsOf lo h' xs ys acc i:=by
 obtain⟨ts,e,l,pw,bd,im⟩:=p;refine⟨ts,e,l,pw,fun t ht=>?_,fun j t hj=>?_⟩
 ·obtain⟨j,hj⟩:=List.getElem?_of_mem ht
  obtain⟨x,y,hx,hy,hp⟩:=im j t hj;exact⟨(bd t ht).1,zAr (k _ _ (bd t ht).1 hp)⟩
 ·obtain⟨x,y,hx,hy,hp⟩:=im j t hj
  exact⟨x,y,hx,hy,k _ _ (bd t (zAu hj)).1 hp⟩
theorem PrsOf.push {lo:Nat} {h h':Heap} {xs ys acc:Array Value} {i:Nat} {x y:Value} (p:PrsOf lo h xs ys acc i) (hlo:lo<=h.objs.size) (hs:h'.objs.size=h.objs.size+1) (k:∀ c o,lo<=c->h.get? c=some o->h'.get? c=some o)
  (hx:xs[i]?=some x) (hy:ys[i]?=some y) (hp:IsPair h' h.objs.size x y):PrsOf lo h' xs ys (acc.push (.ref h.objs.size)) (i+1):=by
 obtain⟨ts,e,l,pw,bd,im⟩:=p;refine⟨ts++[h.objs.size],by rw[e]; simp,by rw[zAe,l]; rfl,?_,fun t ht=>?_,fun j t hj=>?_⟩
 ·rw[List.pairwise_append]
  exact⟨pw,List.pairwise_singleton _ _,fun a ha b hb=>by rw[zAk.mp hb]; exact (bd a ha).2⟩
 ·rcases zAW.mp ht with h1 | h1
  ·exact⟨(bd t h1).1,by rw[hs]; exact zAU (bd t h1).2⟩
  ·rw[zAk.mp h1]
   exact⟨hlo,by rw[hs]; exact zBy _⟩
 ·by_cases c:j<ts.length
  ·rw[zBa c] at hj
   obtain⟨x,y,hx,hy,hp⟩:=im j t hj;exact⟨x,y,hx,hy,k _ _ (bd t (zAu hj)).1 hp⟩
  ·rw[zAQ (by omega)] at hj
   have e2:j-ts.length=0:=by
    rcases Nat.eq_zero_or_pos (j-ts.length) with z | z
    ·exact z
    ·rw[zBK (by simp; omega)] at hj
     cases hj
   rw[e2] at hj;cases hj;have ej:j=i:=by omega
   subst ej;exact⟨x,y,hx,hy,hp⟩
section
variable {prog:Program} {w:World} {A:Around} {R:Result->Shared->Prop}
theorem Yd {z TI TO i1 i2 l1 l2 S:Addr} {xs ys:Array Value} {n lo:Nat} (hh:A.handled=none) (D:ZipApart z TI TO i1 i2 l1 l2) (hn:n<=sizeLine) (en:n=min xs.size ys.size) (lz:z<lo) (lT:TO<lo) (la:i1<lo) (lb:i2<lo) (lS:S<lo)
  (n1:S≠l1) (n2:S≠l2) (mz:S≠z) (mT:S≠TO) (ma:S≠i1) (mb:S≠i2) (res:Value) :
  ∀ (k i:Nat) (s:Shared) (acc:Array Value) (c:Nat),n-i=k->i<=n->lo<=s.heap.objs.size->ZS z TI TO i1 i2 l1 l2 xs ys i s.heap->s.heap.get? S=some { cls:=.type "list",dict:=none,data:=.seq acc c,slots := #[] }->PrsOf lo s.heap xs ys acc i ->
  (∀ h' acc' c',(∀ b o,b≠S->b≠z->b≠TO->b≠i1->b≠i2->s.heap.get? b=some o->h'.get? b=some o)->h'.get? S=some { cls:=.type "list",dict:=none,data:=.seq acc' c',slots := #[] }->PrsOf lo h' xs ys acc' n->R (.ok (.ret res)) { s with heap:=h' }) ->
  codeAny (model prog w) A (.builtin "list.extend.loop" ⟨[.ref S,.ref z,res],[]⟩) R s:=by
 intro k
 induction k with
 | zero=>
  intro i s acc c hk hi hlo hst hS hacc hR;have hin:i=n:=by omega
  subst hin;refine codeAny_builtin F.entry_extend_loop ?_;rw[Around.under_plainId F.plain_extend_loop _];show wpAny _ A.in1 (pyNext (.ref z) >>= _) _ _ s;refine zCp (DR hh D hst ?_ fun h' kp=>?_)
  ·rcases Nat.le_total xs.size ys.size with h | h
   ·exact .inl (zBw (by omega))
   ·exact .inr (zBw (by omega))
  ·exact zCq (hR h' acc c (fun b o _ b2 b3 b4 b5 e=>kp b o b2 b3 b4 b5 e) (kp _ _ mz mT ma mb hS) (hacc.mono fun b o l e=>kp b o (zAG (zAt lz l)) (zAG (zAt lT l)) (zAG (zAt la l)) (zAG (zAt lb l)) e))
 | succ k ih=>
  intro i s acc c hk hi hlo hst hS hacc hR;have hlt:i<n:=by omega
  have hx:i<xs.size:=by omega
  have hy:i<ys.size:=by omega
  refine codeAny_builtin F.entry_extend_loop ?_;rw[Around.under_plainId F.plain_extend_loop _];show wpAny _ A.in1 (pyNext (.ref z) >>= _) _ _ s;refine zCp (X0 D hst (zAK hx) (zAK hy) fun h' Z' hp hsz kp=>?_);have hS':=kp _ _ mz mT ma mb hS;have hacc':=hacc.push hlo hsz (fun b o l e=>kp b o (zAG (zAt lz l)) (zAG (zAt lT l)) (zAG (zAt la l)) (zAG (zAt lb l)) e) (zAK hx) (zAK hy) hp;have az:acc.size=i:=by
   obtain⟨ts,e,l,_⟩:=hacc;rw[e,<- l];simp
  have oth:∀ b o,b≠S->h'.get? b=some o->(h'.update S (Obj.mapSeq (·.push (.ref s.heap.objs.size)))).get? b=some o:=fun b o hb e=>(zBf _ _ (Ne.symm hb)).trans e;show wpAny _ A.in1 (updateSeq S (·.push (.ref s.heap.objs.size)) >>= _) _ _ _;refine zCp ?_;refine wpAny_updateSeq hS' rfl (zCq ⟨plainId_quiet F.plain_extend_loop _,ih (i+1) _ (acc.push (.ref s.heap.objs.size)) _ (by omega) hlt ?_ (Z'.at hS' n1 n2 oth) (zBj _ hS' rfl) (hacc'.mono fun b o l e=>oth b o (zAG (zAt lS l)) e) fun h'' acc' c' hm hS'' hacc''=>?_⟩)
   (by rw[az]; omega) (by show (acc.push _).size<=sizeLine+1; rw[Array.size_push,az]; omega)
  ·rw[zCn]
   show lo<=h'.objs.size;rw[hsz];exact Nat.le_succ_of_le hlo
  ·exact hR h'' acc' c' (fun b o b1 b2 b3 b4 b5 e=>hm b o b1 b2 b3 b4 b5 (oth b o b1 (kp b o b2 b3 b4 b5 e))) hS'' hacc''
theorem Yg:typeLookup (.type "zip") "__len__" = pure none:=by rw[typeLookup_type,builtinLookup_eq_fast]; kernel_rfl
theorem Wt:typeLookup (.type "zip") "__length_hint__" = pure none:=by rw[typeLookup_type,builtinLookup_eq_fast]; kernel_rfl
theorem AT {z TI TO i1 i2 l1 l2 S:Addr} {xs ys:Array Value} {n lo:Nat} {s:Shared} {c:Nat} (hh:A.handled=none) (D:ZipApart z TI TO i1 i2 l1 l2) (hn:n<=sizeLine) (en:n=min xs.size ys.size) (lz:z<lo) (lT:TO<lo) (la:i1<lo) (lb:i2<lo) (lS:S<lo)
  (n1:S≠l1) (n2:S≠l2) (mz:S≠z) (mT:S≠TO) (ma:S≠i1) (mb:S≠i2) (res:Value) (hz:IsZip s.heap z TI TO .none) (hlo:lo<=s.heap.objs.size) (Z:ZS z TI TO i1 i2 l1 l2 xs ys 0 s.heap) (hS:s.heap.get? S=some { cls:=.type "list",dict:=none,data:=.seq #[] c,slots := #[] })
  (hR:∀ h' acc' c',(∀ b o,b≠S->b≠z->b≠TO->b≠i1->b≠i2->s.heap.get? b=some o->h'.get? b=some o)->h'.get? S=some { cls:=.type "list",dict:=none,data:=.seq acc' c',slots := #[] }->PrsOf lo h' xs ys acc' n->R (.ok (.ret res)) { s with heap:=h' }) :
  wpAny (model prog w) A.in1 (Builtin.List.listExtendWith (.ref S) (.ref z) res)
   (fun fin s'=>match fin with | .done f=>R (.ok f) s' | .again c'=>c'.quiet=true/\codeAny (model prog w) A c' R s') (fun e s'=>R (.error e) s') s:=by
 have hT:s.TypeIs (.ref z) "zip" := ⟨_,hz,rfl⟩;unfold Builtin.List.listExtendWith;refine zCp (wpAny_typeOf hT ?_);have h1:Builtin.List.listSameRef (.ref S) (.ref z)=false:=by simp [Builtin.List.listSameRef,mz]
 have h2:(Value.type "zip" == Value.type "list")=false:=by decide
 have h3:(Value.type "zip" == Value.type "tuple")=false:=by decide
 simp only [h1,h2,h3,Bool.or_false,zBA,if_false];refine zCp (wpAny_pyIter_zip hz ?_);refine zCp (wpAny_holding ?_);unfold Builtin.List.listLengthHint;refine zCp (wpAny_specialOf hT Yg ?_);show wpAny _ A.in1 (specialOf (Value.ref z) (Str.ofString "__length_hint__") >>= _) _ _ _;refine zCp (wpAny_specialOf hT Wt ?_);refine zCq ?_;show wpAny _ A.in1 (rule "list.extend.makes-room" >>= fun _=>Builtin.List.listTouch (.ref S) >>= fun _=>
  again (.builtin "list.extend.loop" ⟨[.ref S,.ref z,res],[]⟩)) _ _ _
 refine zCp (wpAny_rule ?_);refine zCp ?_;show wpAny _ A.in1 (updateSeq S (·.push .none) >>= fun _=>updateSeq S (·.pop)) _ _ _;refine zCp (wpAny_updateSeq hS rfl ?_);have hS₂ := zBj (Obj.mapSeq (·.push Value.none)) hS rfl;refine wpAny_updateSeq (hz:=by seq_fits) hS₂ rfl ?_;have hS₃ := zBj (Obj.mapSeq (·.pop)) hS₂ rfl;have oth:∀ b o,b≠S->s.heap.get? b=some o->((s.heap.update S (Obj.mapSeq (·.push Value.none))).update S (Obj.mapSeq (·.pop))).get? b=some o:=
  fun b o hb e=>(zBf _ _ (Ne.symm hb)).trans ((zBf _ _ (Ne.symm hb)).trans e)
 refine zCq ⟨plainId_quiet F.plain_extend_loop _,Yd hh D hn en lz lT la lb lS n1 n2 mz mT ma mb res n 0 _ #[] _ rfl (zAC _) (by rw[zCn,zCn]; exact hlo) (Z.at hS n1 n2 oth) hS₃
  ⟨[],rfl,rfl,.nil,fun t ht=>absurd ht zBW,fun j t hj=>by simp at hj⟩ fun h' acc' c' hm hS' hacc=>?_⟩
 exact hR h' acc' c' (fun b o b1 b2 b3 b4 b5 e=>hm b o b1 b2 b3 b4 b5 (oth b o b1 e)) hS' hacc
theorem R5 {z TI TO i1 i2 l1 l2 S:Addr} {xs ys:Array Value} {n lo:Nat} {s:Shared} (hh:A.handled=none) (D:ZipApart z TI TO i1 i2 l1 l2) (hn:n<=sizeLine) (en:n=min xs.size ys.size) (lz:z<lo) (lT:TO<lo) (la:i1<lo) (lb:i2<lo) (lS:S<lo)
  (n1:S≠l1) (n2:S≠l2) (mz:S≠z) (mT:S≠TO) (ma:S≠i1) (mb:S≠i2) (hz:IsZip s.heap z TI TO .none) (hlo:lo<=s.heap.objs.size) (Z:ZS z TI TO i1 i2 l1 l2 xs ys 0 s.heap) (hS:s.heap.get? S=some { cls:=.type "list",data:=.seq #[] })
  (hR:∀ h' acc' c',(∀ b o,b≠S->b≠z->b≠TO->b≠i1->b≠i2->s.heap.get? b=some o->h'.get? b=some o)->h'.get? S=some { cls:=.type "list",dict:=none,data:=.seq acc' c',slots := #[] }->PrsOf lo h' xs ys acc' n->R (.ok (.ret .none)) { s with heap:=h' }) :
  wpAny (model prog w) A.in1 (Builtin.«list.__init__» ⟨[.ref S,.ref z],[]⟩)
   (fun fin s'=>match fin with | .done f=>R (.ok f) s' | .again c'=>c'.quiet=true/\codeAny (model prog w) A c' R s') (fun e s'=>R (.error e) s') s:=by
 show wpAny _ A.in1 (do let old <- Builtin.List.listItems (.ref S); Builtin.List.listUpdate (.ref S) (fun _ => #[]); letGo old.toList.reverse; Builtin.List.listExtendWith (.ref S) (.ref z) .none) _ _ s;refine zCp ?_;unfold Builtin.List.listItems;refine zCp (wpAny_seqItems hS rfl (zCq ?_));show wpAny _ A.in1 (updateSeq S (fun _ => #[]) >>= fun _=>letGo (#[]:Array Value).toList.reverse >>= fun _=>Builtin.List.listExtendWith (.ref S) (.ref z) .none) _ _ s;refine zCp (wpAny_updateSeq hS rfl ?_);have hS₂ := zBj (Obj.mapSeq (fun _=>(#[]:Array Value))) hS rfl;have oth:∀ b o,b≠S->s.heap.get? b=some o->(s.heap.update S (Obj.mapSeq (fun _=>(#[]:Array Value)))).get? b=some o:=
  fun b o hb e=>(zBf _ _ (Ne.symm hb)).trans e
 refine zCp (wpAny_letGo ?_);refine AT hh D hn en lz lT la lb lS n1 n2 mz mT ma mb .none (oth _ _ mz.symm hz) (by rw[zCn]; exact hlo) (Z.at hS n1 n2 oth) hS₂ fun h' acc' c' hm hS' hacc=>?_;exact hR h' acc' c' (fun b o b1 b2 b3 b4 b5 e=>hm b o b1 b2 b3 b4 b5 (oth b o b1 e)) hS' hacc
theorem Sd {z TI TO i1 i2 l1 l2:Addr} {xs ys:Array Value} {n:Nat} {s:Shared} {Q:Value->Shared->Prop} {E:Value->Shared->Prop} (hh:A.handled=none) (D:ZipApart z TI TO i1 i2 l1 l2) (hn:n<=sizeLine) (en:n=min xs.size ys.size) (hz:IsZip s.heap z TI TO .none) (Z:ZS z TI TO i1 i2 l1 l2 xs ys 0 s.heap) (hTO:∃ a b,IsPair s.heap TO a b)
  (hQ:∀ h' acc' c',(∀ b o,b≠z->b≠TO->b≠i1->b≠i2->s.heap.get? b=some o->h'.get? b=some o)->h'.get? s.heap.objs.size=some { cls:=.type "list",dict:=none,data:=.seq acc' c',slots := #[] }->PrsOf (s.heap.objs.size+1) h' xs ys acc' n->Q (.ref s.heap.objs.size) { s with heap:=h' }) :
  wpAny (model prog w) A (call (.type "list") [.ref z]) Q E s:=by
 obtain⟨_,⟨o1,e1,_⟩,⟨o2,e2,_⟩,⟨o3,e3,_⟩,⟨o4,e4,_⟩,_⟩:=id Z;obtain⟨a,b,eT⟩:=hTO;have L:∀ {c:Addr} {o:Obj},s.heap.get? c=some o->c<s.heap.objs.size:=fun e=>zAr e;refine callType_codes (Q₁ := fun obj s₁ => obj = .ref s.heap.objs.size/\s₁ = { s with heap:=s.heap.push { cls:=.type "list",data:=.seq #[] } }) F.called_list (F.typeCall_list_1 _) F.entry_list_init
  (code_list_new _ ⟨rfl,rfl⟩) fun obj s₁ h₁ => ?_
 obtain⟨rfl,rfl⟩:=h₁;have hS:(s.heap.push { cls:=.type "list",data:=.seq #[] }).get? s.heap.objs.size=some { cls:=.type "list",data:=.seq #[] }:=zAv _ rfl;have up:∀ c o,s.heap.get? c=some o->(s.heap.push { cls:=.type "list",data:=.seq #[] }).get? c=some o:=fun c o e=>zAc _ e;refine⟨⟨_,hS,rfl⟩,F.args_list_init_2 _ _,R5 (lo:=s.heap.objs.size+1) hh D hn en (zAU (L hz)) (zAU (L eT)) (zAU (L e1)) (zAU (L e2)) (zBy _) (zAG (L e3)) (zAG (L e4)) (zAG (L hz)) (zAG (L eT)) (zAG (L e1)) (zAG (L e2))
  (up _ _ hz) (by show _<=(s.heap.push _).objs.size; rw[zBt]; exact zAg _) ?_ hS fun h' acc' c' hm hS' hacc=>?_⟩
 ·obtain⟨a1,a2,a3,a4,a5,a6⟩:=Z
  refine⟨up _ _ a1,a2.at fun o e=>up _ _ e,a3.at fun o e=>up _ _ e,a4.at fun o e=>up _ _ e,a5.at fun o e=>up _ _ e,.inl ⟨up _ _ hz,a,b,up _ _ eT⟩⟩
 ·exact⟨rfl,hQ h' acc' c' (fun b o b2 b3 b4 b5 e=>hm b o (zAs (L e)) b2 b3 b4 b5 (up _ _ e)) hS' hacc⟩
end
theorem Vals.back {xs:List V} {us:List Value} {k:Nat} {u:Value} (r:Vals xs us) (h:us[k]?=some u):∃ x,xs[k]?=some x/\RelV x u:=by
 have l:=r.length;have hk:k<xs.length:=by
  rw[l];exact (zAp.mp h).1
 obtain⟨u',e,q⟩:=r.get (zAf hk);rw[h] at e;cases e;exact⟨_,zAf hk,q⟩
theorem Qg {X:Cx} {pins:List (Addr×Obj)} {σ:St} {s:Shared} {xs ys:List V} {us vs:List Value} (rx:Vals xs us) (ry:Vals ys vs):∀ (ts:List Addr) (m:Nat) (H:Hp),Inv X pins σ H s->ts.Pairwise (· < ·)->(∀ t∈ts,Jx X pins H t) ->
  (∀ (j:Nat) (t:Addr),ts[j]?=some t->∃ u v,us[m+j]?=some u/\vs[m+j]?=some v/\IsPair s.heap t u v)->∃ H2,Inv X pins σ H2 s/\(∀ b o,H b=some o->H2 b=some o)/\∀ (j:Nat) (t:Addr),ts[j]?=some t->∃ x y,xs[m+j]?=some x/\ys[m+j]?=some y/\H2 t=some (.tup [x,y])
 | [],_,H,I,_,_,_=>⟨H,I,fun _ _ e=>e,fun j t h=>by simp at h⟩
 | t::ts,m,H,I,pw,fp,im=>by
  obtain⟨u,v,hu,hv,hp⟩:=im 0 t rfl;obtain⟨x,hx,ru⟩:=rx.back hu;obtain⟨y,hy,rv⟩:=ry.back hv;rw[zBs] at pw;have I2:Inv X pins σ (upd H t (.tup [x,y])) s:=I.trackN (fp t zAo) ⟨Ce (by show 2<=1000; decide),[u,v],.cons ru (.cons rv .nil),?_⟩
  ·have ht:=(fp t zAo).1
   obtain⟨H2,I3,k,im2⟩:=Qg rx ry ts (m+1) _ I2 pw.2 (fun t' ht'=>by
    obtain⟨q1,q2⟩:=fp t' (zAm _ ht');exact⟨by rw[Ar (zAG (pw.1 t' ht'))]; exact q1,q2⟩) fun j t' hj=>by
     have:=im (j+1) t' hj;rw[show m+1+j=m+(j+1) from by omega];exact this
   refine⟨H2,I3,fun b o e=>k b o (by rw[Ar (fun z=>by rw[z,ht] at e; cases e)]; exact e),fun j t' hj=>?_⟩;cases j with
   | zero=>
    cases hj
    exact⟨x,y,hx,hy,k _ _ Ab⟩
   | succ j=>
    have:=im2 j t' hj;rw[show m+1+j=m+(j+1) from by omega] at this;exact this
  ·exact⟨_,hp,rfl,_,rfl⟩
def IJ (K:zAb) (ta:TA):TE:=fun σ H Q=>ta σ H fun vs H1=>∃ a b xs ys,vs=[.ref a,.ref b]/\SqL K H1 a xs/\SqL K H1 b ys/\∀ (r:Addr) (ts:List Addr) (H2:Hp),H1 r=none->(∀ b o,H1 b=some o->H2 b=some o)->ts.length=min xs.length ys.length ->
 H2 r=some (.lst (ts.map V.ref))->(∀ (j:Nat) (t:Addr),ts[j]?=some t->∃ x y,xs[j]?=some x/\ys[j]?=some y/\H1 t=none/\H2 t=some (.tup [x,y]))->Q (.ref r) H2
theorem Qd {X:Cx} {e1 e2:Expr} {ta:TA} {p pos p2 pos2:Pos} (hg:Gl X "list") (hm:X.mg "list" = none) (hg2:Gl X "zip") (hm2:X.mg "zip" = none) (ha:PA X [e1,e2] ta) (hc:X.calm=true:=by rfl) (hs:starEach [e1,e2] X.env=[(false,eval e1 X.env),(false,eval e2 X.env)]:=by rfl) (hs2:starEach [e2] X.env=[(false,eval e2 X.env)]:=by rfl)
  (hs3:starEach [.Call (.Name "zip" p2) [e1,e2] [] pos2] X.env=(false,eval (.Call (.Name "zip" p2) [e1,e2] [] pos2) X.env)::starEach [] X.env:=by rfl) :
  PE X (.Call (.Name "list" p) [.Call (.Name "zip" p2) [e1,e2] [] pos2] [] pos) (IJ X.K ta):=by
 intro pins s σ H Q I h;refine wpAny_Call_Name_kw (Dy I hg hm (show zCs "list" = some (.type "list") from rfl) ?_);refine PyProof.Rows.callWith_type1 ?_ hs3 rfl;rw[hs3];show wpAny _ _ (spliced ((false,eval (.Call (.Name "zip" p2) [e1,e2] [] pos2) X.env)::backTo pos (starEach [] X.env))) _ _ s;refine Calls.spliced_cons ?_;refine Call_ (Dy I hg2 hm2 (show zCs "zip" = some (.type "zip") from rfl) (PyProof.Rows.callWith_type1 (Cn (ha pos2 pins s σ H _ I h) fun us s1 ⟨vs,H1,I1,r1,q1⟩=>?_) (by rw[hs,hs2]) (by rw[hs2]; rfl)));obtain⟨a,b,xs,ys,ev,hq1,hq2,q⟩:=q1;subst ev;cases r1 with
 | cons ra rr=>
  cases rr with
  | cons rb rr=>
   cases rr
   cases ra
   cases rb
   obtain⟨its,rv,pl,hz⟩:=I1.list hq1;obtain⟨jts,rv',pl',hz'⟩:=I1.list hq2;have hh:X.A.handled=none:=I.ok.hd hc;refine call_zip_2 pl.isList pl'.isList fun h' b1 b2 b3 b4 b5 b6 hk=>?_;refine Calls.spliced_nil ?_;have l1:=rv.length;have l2:=rv'.length;have Z:ZS (s1.heap.objs.size+4) (s1.heap.objs.size+2) (s1.heap.objs.size+3) s1.heap.objs.size (s1.heap.objs.size+1) a b its.toArray jts.toArray 0 h':=⟨b2,b4,b5,pl.isList.at fun o e=>hk _ _ e,pl'.isList.at fun o e=>hk _ _ e,.inl ⟨b1,_,_,b3⟩⟩;have D:=F9 (CD s1.heap.objs.size) (k:=0) (h:=h') ⟨b1,b2,⟨_,_,b3⟩,b4,b5⟩ Z.2.2.2.1 Z.2.2.2.2.1;refine Sd (n:=min its.length jts.length) hh D (by omega) (by simp) b1 Z ⟨_,_,b3⟩ fun h2 acc c hk2 hS hpr=>?_;obtain⟨ts,rfl,lt,pw,bd,im⟩:=hpr;have hS:h2.get? h'.objs.size=some { cls:=.type "list",dict:=none,data:=.seq (ts.map Value.ref).toArray c,slots := #[] }:=hS;have bd:∀ t∈ts,h'.objs.size+1<=t/\t<h2.objs.size:=bd;have kp:∀ b o,s1.heap.get? b=some o->h2.get? b=some o:=fun b o e=>by
    have lb:=zAr e;exact hk2 b o (zAs (zAt lb (zBV _ _))) (zAs (zAt lb (zBV _ _))) (zAs lb) (zAs (zAt lb (zBV _ _))) (hk _ _ e)
   have le:s1.heap.objs.size<=h'.objs.size:=by rw[b6]; exact zBV _ _
   have fS:H1 h'.objs.size=none:=I1.hok.fresh le;have vr:∀ l:List Addr,Vals (l.map V.ref) (l.map Value.ref):=fun l=>by
    induction l with
    | nil=>exact .nil
    | cons a l ih=>exact .cons rfl ih
   have I2:Inv X pins σ (upd H1 h'.objs.size (.lst (ts.map V.ref))) { s1 with heap:=h2 }:=I1.laid (t':=s1.toks) kp le ⟨by rw[zAa,lt]; omega,_,c,vr ts,hS⟩;have ne:∀ t∈ts,t≠h'.objs.size:=fun t ht=>zAG (bd t ht).1;have ft:∀ t∈ts,H1 t=none:=fun t ht=>I1.hok.fresh (zAE le (zBD (bd t ht).1));obtain⟨H2,I3,k3,im3⟩:=Qg rv rv' ts 0 _ I2 pw (fun t ht=>I1.fpOk (zAE le (zBD (bd t ht).1)) (by rw[Ar (ne t ht)]; exact ft t ht)) fun j t hj=>by
    obtain⟨x,y,hx,hy,hp⟩:=im j t hj;rw[Nat.zero_add];exact⟨x,y,by simpa using hx,by simpa using hy,hp⟩
   refine⟨.ref h'.objs.size,H2,I3,rfl,q _ ts H2 fS (fun b o e=>k3 b o (by rw[Ar (fun z=>by rw[z,fS] at e; cases e)]; exact e)) (by omega) (k3 _ _ Ab) fun j t hj=>?_⟩;obtain⟨x,y,hx,hy,hp⟩:=im3 j t hj;rw[Nat.zero_add] at hx hy;exact⟨x,y,hx,hy,ft t (zAu hj),hp⟩
end L2
namespace L2
open PySem PySem.Spec PyProof.Rows PySem.W
theorem Xd:∀ {ns:List Str} {us:List Value},Vals (ns.map V.str) us->StrsAre us ns
 | [],us,r=>by
  have l:=r.length;cases us with
  | nil=>exact .nil
  | cons u us=>cases l
 | n::ns,us,r=>by
  cases us with
  | nil=>cases r.length
  | cons u us=>
   cases r with
   | cons h t=>
    obtain⟨tk,rfl⟩:=h;exact .cons n tk (Xd t)
section
variable {X:Cx}
def CS (K:zAb):List V->Hp->VK->Prop:=fun xs H Q=>
 (∃ (a:Addr) (ns:List Int),xs=[.ref a]/\SqL K H a (ns.map V.int)/\ns.length<64/\∀ (l:Addr) (ms:List Int),H l=none->ms.Perm ns->ms.Pairwise (· <= ·)->Q (.ref l) (upd H l (.lst (ms.map V.int)))) \/
 (∃ (a:Addr) (ns:List Str),xs=[.ref a]/\SqL K H a (ns.map V.str)/\ns.length<64/\∀ (l:Addr) (ms:List Str),H l=none->ms.Perm ns->sortedS ms=true->Q (.ref l) (upd H l (.lst (ms.map V.str))))
theorem Uq:Kb X (.builtin "sorted") (CS X.K):=by
 intro pins s σ H xs us Q I r h;rcases h with ⟨a,ns,rfl,hq,l64,q⟩ | ⟨a,ns,rfl,hq,l64,q⟩
 ·obtain⟨u,rfl,rx⟩:=Lk r
  cases rx
  obtain⟨its,rv,pl,hz⟩:=I.list hq;have hl:=rv.length;rw[zAa] at hl;refine sorted_ints pl.isList (Lm rv) (by omega) fun out ms h1 h2 h3=>?_;obtain⟨e,he⟩:=sortedAll_at s.heap its out;have lp:(ms.map V.int).length<=sizeLine:=by rw[zAa,h2.length_eq,zCr]; omega
  exact⟨.ref (s.heap.objs.size+1),_,I.laid (t':=s.toks) (fun b o q=>sortedAll_old q) (zBn _) (show ObjOk X.prog X.w _ _ _ (.lst _) from ⟨lp,out.toList,e,Jm h1,he⟩),rfl,q _ ms (I.hok.fresh (zBn _)) h2 h3⟩
 ·obtain⟨u,rfl,rx⟩:=Lk r
  cases rx
  obtain⟨its,rv,pl,hz⟩:=I.list hq;have hl:=rv.length;rw[zAa] at hl;refine sorted_strs pl.isList (Xd rv) (by omega) fun out ms h1 h2 h3=>?_;obtain⟨e,he⟩:=sortedAll_at s.heap its out;have lp:(ms.map V.str).length<=sizeLine:=by rw[zAa,h2.length_eq,zCr]; omega
  exact⟨.ref (s.heap.objs.size+1),_,I.laid (t':=s.toks) (fun b o q=>sortedAll_old q) (zBn _) (show ObjOk X.prog X.w _ _ _ (.lst _) from ⟨lp,out.toList,e,Jr h1,he⟩),rfl,q _ ms (I.hok.fresh (zBn _)) h2 h3⟩
end
theorem X1 {X:Cx} {K:zAb} (h:X.K=K):GB X (EO K):=h▸M9
theorem Ti {α:Type} {r:α->α->Prop} (as:∀ a b,r a b->¬ r b a):∀ {l m:List α},l.Pairwise r->m.Pairwise r->(∀ x,x∈l↔x∈m)->l=m
 | [],[],_,_,_=>rfl
 | [],y::m,_,_,h=>absurd ((h y).mpr zAo) zBW
 | x::l,[],_,_,h=>absurd ((h x).mp zAo) zBW
 | x::l,y::m,hl,hm,h=>by
  rw[zBs] at hl hm;have e:x=y:=by
   rcases zAq.mp ((h x).mp zAo) with e | e
   ·exact e
   ·rcases zAq.mp ((h y).mpr zAo) with e2 | e2
    ·exact e2.symm
    ·exact absurd (hl.1 y e2) (as _ _ (hm.1 x e))
  subst e;have ir:∀ z,r x z->z≠x:=fun z hz e=>by
   subst e;exact as _ _ hz hz
  rw[Ti as hl.2 hm.2 fun z=>⟨fun hz=>?_,fun hz=>?_⟩]
  ·rcases zAq.mp ((h z).mp (zAm _ hz)) with e | e
   ·exact absurd e (ir z (hl.1 z hz))
   ·exact e
  ·rcases zAq.mp ((h z).mpr (zAm _ hz)) with e | e
   ·exact absurd e (ir z (hm.1 z hz))
   ·exact e
theorem Ll {l m:List Int} (h1:l.Pairwise (· < ·)) (h2:m.Pairwise (· < ·)) (h:∀ x,x∈l↔x∈m):l=m:=Ti (fun a b h1 h2=>by omega) h1 h2 h
def DY (a b:Str):Prop:=a.cps.toList<b.cps.toList
theorem DB (a b:Str) (h:DY a b):¬ DY b a:=fun h2=>List.lt_irrefl _ (List.lt_trans (show a.cps.toList<b.cps.toList from h) h2)
theorem Y6 {a b:Str} (n:a≠b) (h:ltCps b.cps.toList a.cps.toList=false):DY a b:=by
 rw[ltCps_eq] at h;have h:=of_decide_eq_false h;unfold DY;by_cases c:a.cps.toList<b.cps.toList
 ·exact c
 ·have e:=List.le_antisymm (List.not_lt.mp h) (List.not_lt.mp c)
  refine absurd ?_ n;cases a;cases b;simp at e;rw[e]
theorem A1:∀ (p:Str) (l:List Str),(p::l).Nodup->risingS p l=true->(p::l).Pairwise DY
 | p,[],_,_=>List.pairwise_singleton _ _
 | p,x::l,nd,h=>by
  unfold risingS at h;rw[zBe,Bool.not_eq_true'] at h;rw[zBp] at nd;have ih:=A1 x l nd.2 h.2;have px:DY p x:=Y6 (fun e=>nd.1 (by rw[e]; exact zAo)) h.1;rw[zBs];refine⟨fun z hz=>?_,ih⟩;rcases zAq.mp hz with rfl | hz
  ·exact px
  ·exact List.lt_trans px ((zBs.mp ih).1 z hz)
theorem Sm {l:List Str} (nd:l.Nodup) (h:sortedS l=true):l.Pairwise DY:=by
 cases l with
 | nil=>exact .nil
 | cons x l=>exact A1 x l nd h
theorem Wq {l m:List Str} (n1:l.Nodup) (n2:m.Nodup) (h1:sortedS l=true) (h2:sortedS m=true) (h:∀ x,x∈l↔x∈m):l=m:=Ti DB (Sm n1 h1) (Sm n2 h2) h
theorem Hj:∀ {xs:List V},xs.all Ci=true->Np xs xs=true
 | [],_=>rfl
 | x::xs,h=>by
  rw[zBQ,zBe] at h;unfold Np;rw[Vg h.1,Hj h.2];rfl
def plain (v:V):Prop:=(∃ z,v = .str z)\/∃ i,v = .int i
theorem Qo {v:V} {vs:List V} (hv:plain v) (h:∀ u∈vs,plain u):Pn v vs=decide (v∈vs):=by
 unfold Pn;rw[zBF,List.any_eq_true,decide_eq_true_eq];constructor
 ·rintro ⟨u,hu,e⟩
  rw[Vk (h u hu) hv] at e;rw[<- of_decide_eq_true e];exact hu
 ·exact fun hm=>⟨v,hm,by rw[Vk (h v hm) hv]; exact decide_eq_true rfl⟩
theorem Xw (zs:List Str):∀ u∈zs.map V.str,plain u:=fun u hu=>by
 obtain⟨z,_,rfl⟩:=zAA.mp hu;exact .inl ⟨z,rfl⟩
theorem Yk (zs:List Int):∀ u∈zs.map V.int,plain u:=fun u hu=>by
 obtain⟨z,_,rfl⟩:=zAA.mp hu;exact .inr ⟨z,rfl⟩
theorem Yt {vs:List V} (h:∀ u∈vs,plain u):vs.all Ci=true:=by
 rw[zBI];intro x hx;rcases h x hx with ⟨z,rfl⟩ | ⟨z,rfl⟩ <;> rfl
theorem Tf (z:Str) (zs:List Str):Pn (.str z) (zs.map V.str)=decide (z∈zs):=by
 rw[Qo (.inl ⟨z,rfl⟩) (Xw zs)];exact decide_eq_decide.mpr ⟨fun h=>by obtain⟨y,hy,e⟩:=zAA.mp h; cases e; exact hy,fun h=>zAA.mpr ⟨z,h,rfl⟩⟩
theorem C1 (z:Int) (zs:List Int):Pn (.int z) (zs.map V.int)=decide (z∈zs):=by
 rw[Qo (.inr ⟨z,rfl⟩) (Yk zs)];exact decide_eq_decide.mpr ⟨fun h=>by obtain⟨y,hy,e⟩:=zAA.mp h; cases e; exact hy,fun h=>zAA.mpr ⟨z,h,rfl⟩⟩
theorem Ut {K:zAb}:zBG K (.type "str") (.type "str")=some true:=by kernel_rfl
theorem Mi {K:zAb} {H:Hp}:∀ {vs:List V},vs.all Ci=true->Reps K H (vs.map D.at) vs
 | [],_=>by rw[zBr]; unfold Reps; rfl
 | v::vs,h=>by
  rw[zBQ,zBe] at h;rw[zAw];unfold Reps;exact⟨v,vs,rfl,by unfold Oj; exact⟨rfl,h.1⟩,Mi h.2⟩
theorem Gz:∀ (vs us:List V),eqDs (vs.map D.at) (us.map D.at)=Np vs us
 | [],[]=>by rw[zBr]; unfold eqDs Np; rfl
 | v::vs,u::us=>by
  rw[zAw,zAw];unfold eqDs Np M6;rw[Gz vs us]
 | [],_::_=>by rw[zBr,zAw]; unfold eqDs Np; rfl
 | _::_,[]=>by rw[zBr,zAw]; unfold eqDs Np; rfl
theorem Fw:∀ (vs:List V),deps (vs.map D.at)=0
 | []=>by rw[zBr]; unfold deps; rfl
 | v::vs=>by
  rw[zAw];unfold deps DV;rw[Fw vs];rfl
theorem Ic {K:zAb} {H:Hp} {t:Addr} {vs:List V} (h:H t=some (.tup vs)) (f:vs.all Ci=true):Oj K H (.seq true (vs.map D.at)) (.ref t):=by
 unfold Oj;exact⟨t,vs,rfl,fun _=>SqT.of h,fun e=>zCo e,Mi f⟩
theorem Pc {K:zAb} {H:Hp} {t:Addr} {vs:List V} (h:H t=some (.lst vs)) (f:vs.all Ci=true):Oj K H (.seq false (vs.map D.at)) (.ref t):=by
 unfold Oj;exact⟨t,vs,rfl,fun e=>zCo e,fun _=>SqL.of h,Mi f⟩
def Hx (t:Bool) (r:List V):D:=.seq t (r.map D.at)
theorem Tt:∀ {rs:List (List V)},(∀ r∈rs,r.all Ci=true)->∀ t,eqDs (rs.map (Hx t)) (rs.map (Hx t))=true
 | [],_,_=>by rw[zBr]; unfold eqDs; rfl
 | r::rs,h,t=>by
  rw[zAw];unfold eqDs;rw[Tt (fun r hr=>h r (zAm _ hr)) t];unfold Hx M6;rw[Gz,Hj (h r zAo)];cases t <;> rfl
theorem Lb:∀ (rs:List (List V)) (t:Bool),deps (rs.map (Hx t))<=1
 | [],_=>by rw[zBr]; unfold deps; omega
 | r::rs,t=>by
  rw[zAw];unfold deps;have:=Lb rs t;have e:DV (Hx t r)=1:=by
   unfold Hx DV;rw[Fw]
  omega
end L2
namespace CRP
end CRP
namespace CR
end CR
namespace CRT
open CR CRP
section
variable {ν : Type}
end
end CRT
namespace CR
end CR
namespace CRT
open CR CRP
section
variable {ν : Type}
end
end CRT
namespace CRL
open PySem L2
def top (i:Nat):Stmt:=PySem.Challenge.pw_coverroll_k81_all_kinds_parted.main.body.getD i (.Pass ⟨0,0,0,0⟩)
abbrev Kx:Stmt:=top 8
abbrev Ea:Stmt:=top 13
abbrev Nh:Stmt:=top 14
abbrev Qj:Stmt:=top 18
abbrev Ks:Stmt:=top 19
abbrev Mh:Stmt:=top 20
abbrev Mr:Stmt:=top 21
abbrev Fb:Stmt:=top 22
abbrev Kc:Stmt:=top 23
abbrev Gi:Stmt:=top 24
abbrev Nc:Stmt:=top 25
abbrev Fh:Stmt:=Cq (top 28) 0
abbrev Ik:Stmt:=top 30
abbrev Ej:Stmt:=Cq (top 31) 3
abbrev Ef:Stmt:=Cq (top 32) 0
abbrev Fj:Stmt:=Cq (top 32) 3
abbrev Ec:Stmt:=Cq (top 33) 0
abbrev Ff:Stmt:=Cq (top 33) 3
abbrev Ek:Stmt:=Cq (top 34) 0
abbrev Gg:Stmt:=Cq (top 34) 3
abbrev Fk:Stmt:=Cq (top 35) 0
abbrev Il:Stmt:=Cq (top 35) 3
abbrev Gh:Stmt:=Cq (top 36) 0
abbrev Jj:Stmt:=Cq (top 36) 3
abbrev Gc:Stmt:=Cq (top 37) 0
abbrev Ji:Stmt:=Cq (top 37) 4
abbrev Fl:Stmt:=Cq (top 38) 0
abbrev Ig:Stmt:=Cq (top 38) 4
abbrev Gx:Stmt:=top 42
abbrev Kd:Stmt:=top 43
abbrev Qa:Stmt:=top 44
abbrev Fa:Stmt:=top 45
abbrev Uc:Stmt:=top 46
abbrev Ez:Stmt:=Cq (top 47) 0
abbrev Ga:Stmt:=top 51
abbrev Bw:Stmt:=Cq (top 52) 0
abbrev Jg:Stmt:=top 54
abbrev Ht:Stmt:=top 55
abbrev Gw:Stmt:=top 56
abbrev Hq:Stmt:=top 57
abbrev Gq:Stmt:=top 58
abbrev Je:Stmt:=top 59
abbrev Iv:Stmt:=top 60
abbrev En:Stmt:=top 61
abbrev Hr:Stmt:=top 62
abbrev Ii:Stmt:=top 63
abbrev Jf:Stmt:=top 64
abbrev Ie:Stmt:=top 65
abbrev Ei:Stmt:=top 66
abbrev Ed:Stmt:=top 67
abbrev Dh:Stmt:=top 68
abbrev El:Stmt:=top 69
abbrev Ix:Stmt:=top 70
abbrev Ib:Stmt:=top 71
abbrev Em:Stmt:=top 72
abbrev Pj:Stmt:=top 73
structure Txt (K:zAb) (mg:Str->Option Value):Prop where
 g_ANY_OTHER:Z0 mg "ANY_OTHER" ""
 g_COVERED_ONE:Z0 mg "COVERED_ONE" "self"
 g_LAST_DAY:Wo mg "LAST_DAY" 1000000
 g_LETTERS:Z0 mg "LETTERS" "abcdefghijklmnopqrstuvwxyz"
 g_LONGEST_NAME:Wo mg "LONGEST_NAME" 8
 g_MOST_CELLS:Wo mg "MOST_CELLS" 120
 g_MOST_CLAUSES:Wo mg "MOST_CLAUSES" 8
 g_MOST_COVERS:Wo mg "MOST_COVERS" 8
 g_MOST_PLACES:Wo mg "MOST_PLACES" 8
 g_MOST_TURNS:Wo mg "MOST_TURNS" 100
 n_bool:mg "bool" = none
 n_enumerate:mg "enumerate" = none
 n_int:mg "int" = none
 n_isinstance:mg "isinstance" = none
 n_len:mg "len" = none
 n_list:mg "list" = none
 n_max:mg "max" = none
 n_range:mg "range" = none
 n_set:mg "set" = none
 n_sorted:mg "sorted" = none
 n_str:mg "str" = none
 n_sum:mg "sum" = none
 n_tuple:mg "tuple" = none
 n_zip:mg "zip" = none
structure Kl (K:zAb) (mg:Str->Option Value) (Ad Ai Ah Ak Aq Ax Aw Ap Bj Al Az:Addr):Prop where
 mg_Condition:mg "Condition" = some (.ref Ad)
 cl_Condition:Cls K Ad
 mg_CauseIs:mg "CauseIs" = some (.ref Ai)
 cl_CauseIs:Cls K Ai
 na_CauseIs_name:NoAttr K Ai "name"
 mg_ThingIs:mg "ThingIs" = some (.ref Ah)
 cl_ThingIs:Cls K Ah
 na_ThingIs_name:NoAttr K Ah "name"
 mg_DaysIn:mg "DaysIn" = some (.ref Ak)
 cl_DaysIn:Cls K Ak
 na_DaysIn_first:NoAttr K Ak "first"
 na_DaysIn_last:NoAttr K Ak "last"
 mg_Over:mg "Over" = some (.ref Aq)
 cl_Over:Cls K Aq
 na_Over_cents:NoAttr K Aq "cents"
 mg_Not:mg "Not" = some (.ref Ax)
 cl_Not:Cls K Ax
 na_Not_part:NoAttr K Ax "part"
 mg_All:mg "All" = some (.ref Aw)
 cl_All:Cls K Aw
 na_All_several:NoAttr K Aw "several"
 mg_Some:mg "Some" = some (.ref Ap)
 cl_Some:Cls K Ap
 na_Some_several:NoAttr K Ap "several"
 mg_Deal:mg "Deal" = some (.ref Bj)
 cl_Deal:Cls K Bj
 na_Deal_wheel:NoAttr K Bj "wheel"
 na_Deal_weights:NoAttr K Bj "weights"
 mg_Cover:mg "Cover" = some (.ref Al)
 cl_Cover:Cls K Al
 na_Cover_name:NoAttr K Al "name"
 na_Cover_condition:NoAttr K Al "condition"
 na_Cover_clauses:NoAttr K Al "clauses"
 na_Cover_houses:NoAttr K Al "houses"
 na_Cover_deal:NoAttr K Al "deal"
 na_Cover_waits:NoAttr K Al "waits"
 mg_Book:mg "Book" = some (.ref Az)
 cl_Book:Cls K Az
 na_Book_covers:NoAttr K Az "covers"
 na_Book_asking:NoAttr K Az "asking"
 nd:([Ad,Ai,Ah,Ak,Aq,Ax,Aw,Ap,Bj,Al,Az]:List Addr).Nodup
theorem dT {c A B:Prop} [Decidable c] (h:c) (q:A):if decide c=true then A else B:=by rw[decide_eq_true h,if_pos rfl]; exact q
theorem dF {c A B:Prop} [Decidable c] (h:¬ c) (q:B):if decide c=true then A else B:=by rw[decide_eq_false h,if_neg zAi]; exact q
theorem nT {c A B:Prop} [Decidable c] (h:¬ c) (q:A):if (!decide c)=true then A else B:=by rw[decide_eq_false h]; exact q
theorem nF {c A B:Prop} [Decidable c] (h:c) (q:B):if (!decide c)=true then A else B:=by rw[decide_eq_true h]; exact q
theorem bT {c:Bool} {A B:Prop} (h:c=true) (q:A):if c=true then A else B:=by rw[if_pos h]; exact q
theorem bF {c:Bool} {A B:Prop} (h:c=false) (q:B):if c=true then A else B:=by rw[if_neg (by rw[h]; exact zAi)]; exact q
def N6:V->Bool
 | .int _=>true
 | _=>false
theorem Sk {K:zAb} {H:Hp} {x:V} {T:String} (h:Iw K H x (.type T)):∃ b1 b2,zBG K (.type T) (.type "int")=some b1/\zBG K (.type T) (.type "bool")=some b2/\N6 x=(b1 && !b2):=by
 cases h with
 | non=>exact⟨false,false,by kernel_rfl,by kernel_rfl,rfl⟩
 | bl b=>exact⟨true,true,by kernel_rfl,by kernel_rfl,rfl⟩
 | int i=>exact⟨true,false,by kernel_rfl,by kernel_rfl,rfl⟩
 | str i=>exact⟨false,false,by kernel_rfl,by kernel_rfl,rfl⟩
 | flt i=>exact⟨false,false,by kernel_rfl,by kernel_rfl,rfl⟩
 | lst e=>exact⟨false,false,by kernel_rfl,by kernel_rfl,rfl⟩
 | frz e=>exact⟨false,false,by kernel_rfl,by kernel_rfl,rfl⟩
 | tup e=>exact⟨false,false,by kernel_rfl,by kernel_rfl,rfl⟩
 | dK e=>exact⟨false,false,by kernel_rfl,by kernel_rfl,rfl⟩
 | dT e=>exact⟨false,false,by kernel_rfl,by kernel_rfl,rfl⟩
theorem Tz {K:zAb}:zBG K (.type "list") (.type "list")=some true:=by kernel_rfl
def Ft (K:zAb):Sp:=fun vs H Q _=>∃ x T,vs=[x]/\Iw K H x (.type T)/\Q (.bl (N6 x)) H
theorem Us {K:zAb}:zBG K (.type "tuple") (.type "tuple")=some true:=by kernel_rfl
def Nj (K:zAb):Sp:=fun vs H Q _=>∃ a ns,∃ k:Int,vs=[.ref a,.int k]/\SqL K H a (List.map V.int ns)/\0<=k/\ns.length<=63/\Q (.int (ns.getD k.toNat 0)) H
section
variable {P:Program} {w:World} {K:zAb} {mg:Str->Option Value} {base:Heap}
theorem Uw:Bb ["_law_script", "_law_k"] ["_law_script", "_law_k"] (An Jg):=by injections
theorem Tu {f:Addr} {fd:zCt} (F:Fun K "_law_cell" "_law_cell" Jg f fd) (T:Txt K mg):FnOk P w K mg base Dv 1 f fd ["_law_script", "_law_k"] (Nj K):=by
 have sc:=Uw;bv_omega
 ·obtain⟨_,_,_,rfl,_⟩:=h
  rfl
 obtain⟨a,ns,k,rfl,ha,h0,h63,q⟩:=h;refine⟨_,(Ae (Bm (Ay Ip (pv 1) (Bg Bk rfl T.n_len (show zCs _=some (.builtin "len") from rfl) (Aa (pv 0) Af)) (Bd _))
    (Aj (Au (Av Bu (pv 0) (pv 1) (fun _ _=>rfl))))
    Bc)
   (Aj (Au Ac))),?_⟩
 have hl:(List.map V.int ns).length=ns.length:=zAa _;refine (vE rfl (vE rfl ⟨a,_,rfl,.inl ha,vF rfl rfl (vE rfl ?_)⟩));rw[hl];refine GZ (fun c=>?_) (fun c=>?_)
 ·have c':k<(ns.length:Int):=of_decide_eq_true c
  exact (vE rfl (vE rfl ⟨a,_,_,_,rfl,rfl,ha,AI h0 c',q⟩))
 ·have c':¬ k<(ns.length:Int):=of_decide_eq_false (Bool.eq_false_iff.mpr c)
  have e:ns.getD k.toNat 0=0:=by
   rw[zAR,zBK (by lia)];rfl
  rw[e] at q;exact q
theorem Vs:Bb ["thing"] ["thing"] (An Kx):=by injections
theorem Vu {f:Addr} {fd:zCt} (F:Fun K "is_whole" "is_whole" Kx f fd) (T:Txt K mg):FnOk P w K mg base Dv 1 f fd ["thing"] (Ft K):=by
 have sc:=Vs;bv_omega
 ·obtain⟨x,T,rfl,_⟩:=h
  rfl
 obtain⟨x,ty,rfl,hty,q⟩:=h;refine⟨_,(Aj (Au (Mt (Bg Bt rfl T.n_isinstance (show zCs _=some (.builtin "isinstance") from rfl) (Aa (pv 0) (Aa (Fn "int" rfl T.n_int rfl) Af))) (Me (M7 (Bg Bt rfl T.n_isinstance (show zCs _=some (.builtin "isinstance") from rfl) (Aa (pv 0) (Aa (Fn "bool" rfl T.n_bool rfl) Af)))))))),?_⟩;obtain⟨b1,b2,k1,k2,e⟩:=Sk hty;rw[e] at q;refine (vE rfl ⟨_,_,_,_,_,rfl,Fm,hty,k1,_,rfl,?_⟩);cases b1 with
 | false=>exact q
 | true=>exact⟨_,rfl,_,_,_,_,_,rfl,Fm,hty,k2,_,rfl,q⟩
theorem Rw:Bb ["_law_found"] ["_law_found"] (An Ht):=by injections
theorem Rh {f:Addr} {fd:zCt} (F:Fun K "_law_whole" "_law_whole" Ht f fd) (T:Txt K mg):FnOk P w K mg base Dv 1 f fd ["_law_found"] (Ft K):=by
 have sc:=Rw;bv_omega
 ·obtain⟨x,T,rfl,_⟩:=h
  rfl
 obtain⟨x,ty,rfl,hty,q⟩:=h;refine⟨_,(Aj (Au (Mt (Bg Bt rfl T.n_isinstance (show zCs _=some (.builtin "isinstance") from rfl) (Aa (pv 0) (Aa (Fn "int" rfl T.n_int rfl) Af))) (Me (M7 (Bg Bt rfl T.n_isinstance (show zCs _=some (.builtin "isinstance") from rfl) (Aa (pv 0) (Aa (Fn "bool" rfl T.n_bool rfl) Af)))))))),?_⟩;obtain⟨b1,b2,k1,k2,e⟩:=Sk hty;rw[e] at q;refine (vE rfl ⟨_,_,_,_,_,rfl,Fm,hty,k1,_,rfl,?_⟩);cases b1 with
 | false=>exact q
 | true=>exact⟨_,rfl,_,_,_,_,_,rfl,Fm,hty,k2,_,rfl,q⟩
end
def Fd (c:Nat):Prop:=97<=c/\c<=122
instance:DecidablePred Fd:=fun c=>by unfold Fd; exact inferInstance
def Jh (l:List Nat):Prop:=∀ c∈l,Fd c
instance (l:List Nat):Decidable (Jh l):=by unfold Jh; exact inferInstance
def Ql (l:List Nat):Prop:=(1<=l.length/\l.length<=8)/\Jh l
instance (l:List Nat):Decidable (Ql l):=by unfold Ql; exact inferInstance
theorem let_in {c:Nat}:(c∈(Str.ofString "abcdefghijklmnopqrstuvwxyz").cps.toList)↔Fd c:=by
 have e:(Str.ofString "abcdefghijklmnopqrstuvwxyz").cps.toList=(zAM 26).map (97 + ·):=by ac_nf
 rw[e,zAA];unfold Fd;constructor
 ·rintro ⟨k,hk,rfl⟩
  have:=zBz.mp hk
  lia
 ·intro h
  exact⟨c-97,zBz.mpr (by lia),by lia⟩
def CK:V->Bool
 | .str _=>true
 | _=>false
def Lp:V->Bool
 | .str z=>decide (Ql z.cps.toList)
 | _=>false
def IC (x:V):Prop:=∀ z,x = .str z->z.length<=900
theorem Y0 {K:zAb} {H:Hp} {x:V} {T:String} (h:Iw K H x (.type T)):zBG K (.type T) (.type "str")=some (CK x):=by
 cases h with
 | non=>kernel_rfl
 | bl b=>kernel_rfl
 | int i=>kernel_rfl
 | str i=>kernel_rfl
 | flt i=>kernel_rfl
 | lst e=>kernel_rfl
 | frz e=>kernel_rfl
 | tup e=>kernel_rfl
 | dK e=>kernel_rfl
 | dT e=>kernel_rfl
def R9:Sp:=fun vs H Q _=>∃ l,vs=[.str (tx l)]/\Q (.bl (decide (Jh l))) H
def To (K:zAb):Sp:=fun vs H Q _=>∃ x T,vs=[x]/\Iw K H x (.type T)/\IC x/\Q (.bl (Lp x)) H
section
seal L2.PS L2.PSs L2.PE
variable {P:Program} {w:World} {K:zAb} {mg:Str->Option Value} {base:Heap}
theorem Iy:Bb ["text", "sign"] ["text"] (An Ea):=by injections
theorem Iu {f:Addr} {fd:zCt} (F:Fun K "has_letters_alone" "has_letters_alone" Ea f fd) (T:Txt K mg):FnOk P w K mg base Dv 1 f fd ["text"] R9:=by
 have sc:=Iy;bv_omega
 ·obtain⟨_,rfl,_⟩:=h
  rfl
 obtain⟨l,rfl,q⟩:=h;refine⟨_,(Ae (Dd PassesOwn.never rfl (S1 (pv 0)) (Bh (i:=1) sc.nd rfl (Or.inl rfl))
    (Aj (Bm (Ay K9 (pv 1) (Fo T.g_LETTERS rfl) rfl)
    (Aj (Au Cp))
    Bc)))
   (Aj (Au Cp))),?_⟩
 refine (vE rfl (vE rfl (X8 (l:=l) (fun i σ H2=>((∃ o,σ=[some (.str (tx l)),o])/\H2=H)/\∀ j c,j<i->l[j]?=some c->Fd c) ⟨⟨⟨none,rfl⟩,rfl⟩,fun _ _ z=>absurd z (zBc _)⟩ ?_ ?_)))
 ·rintro i c σ H2 hi ⟨⟨⟨o,rfl⟩,rfl⟩,good⟩
  refine (vE rfl ⟨c,_,rfl,rfl,vE rfl ?_⟩);by_cases hc:Fd c
  ·refine nF (let_in.mpr hc) ⟨⟨⟨_,rfl⟩,rfl⟩,fun j d hj hd=>?_⟩
   by_cases e:j=i
   ·subst e
    rw[hi] at hd;cases hd;exact hc
   ·exact good j d (by lia) hd
  ·refine nT (fun z=>hc (let_in.mp z)) ?_
   have n:¬ Jh l:=fun z=>hc (z c (zAu hi));rw[decide_eq_false n] at q;exact q
 ·rintro σ H2 ⟨⟨⟨o,rfl⟩,rfl⟩,good⟩
  have all:Jh l:=fun c hc=>by
   obtain⟨j,hj,e⟩:=zBh hc;exact good j c hj (by rw[zAf hj,e])
  rw[decide_eq_true all] at q;exact q
theorem Xq:Bb ["thing"] ["thing"] (An Nh):=by injections
theorem Zl {f:Addr} {fd:zCt} (F:Fun K "is_name" "is_name" Nh f fd) (T:Txt K mg) (Chas_letters_alone:Ct P w K mg base 1 "has_letters_alone" ["text"] R9):FnOk P w K mg base Dv 2 f fd ["thing"] (To K):=by
 have sc:=Xq;bv_omega
 ·obtain⟨_,_,rfl,_⟩:=h
  rfl
 obtain⟨x,ty,rfl,hty,ok,q⟩:=h;refine⟨_,(Ae (Bm (Bz (Bx (Bg Bt rfl T.n_isinstance (show zCs _=some (.builtin "isinstance") from rfl) (Aa (pv 0) (Aa (Fn "str" rfl T.n_str rfl) Af)))))
    (Aj (Au Cp))
    Bc)
   (Aj (Au (Mt (Po Ge Ge Ac (Bg Ih rfl T.n_len (show zCs _=some (.builtin "len") from rfl) (Aa (pv 0) Af)) (Gp T.g_LONGEST_NAME rfl)) (Me (Am Chas_letters_alone (hr.mono (by decide)) rfl (Aa (pv 0) Af))))))),?_⟩
 refine (vE rfl ⟨_,_,_,_,_,rfl,Fm,hty,Y0 hty,_,rfl,?_⟩);cases x with
 | str z=>
  have hz:=ok z rfl;have ez:tx z.cps.toList=z:=BU z;refine Cg (vE rfl (vE rfl ⟨Ce (by lia),?_⟩));have lz:(z.length:Int)=(z.cps.toList.length:Int):=by rw[<- Ij,ez]
  refine (vF rfl rfl (vE rfl ?_));by_cases c1:1<=(z.length:Int)
  ·refine dT c1 (vF rfl rfl (vE rfl ?_))
   by_cases c2:(z.length:Int)<=8
   ·refine dT c2 (vE rfl ⟨z.cps.toList,by rw[ez]; rfl,?_⟩)
    have e:decide (Ql z.cps.toList)=decide (Jh z.cps.toList):=by
     by_cases a:Jh z.cps.toList
     ·rw[decide_eq_true a,decide_eq_true (show Ql _ from ⟨⟨by lia,by lia⟩,a⟩)]
     ·rw[decide_eq_false a,decide_eq_false (fun y=>a y.2)]
    rw[<- e];exact q
   ·refine dF c2 ?_
    rw[show Lp (.str z)=false from decide_eq_false (fun y=>c2 (by have:=y.1.2; lia))] at q;exact q
  ·refine dF c1 (vE rfl (Cg ?_))
   rw[show Lp (.str z)=false from decide_eq_false (fun y=>c1 (by have:=y.1.1; lia))] at q;exact q
 | _=>exact Kn q
end
theorem Jp {C:Addr} {H H2:Hp} {x dx:Addr} (nx:H x=none) (ndx:H dx=none) (kp:∀ b o,(upd (upd H dx (.own x)) x (.ins C dx [])) b=some o->b≠x->H2 b=some o):Same H H2:=fun b o e=>
 kp b o (by rw[Ar (At e nx),Ar (At e ndx)]; exact e) (At e nx)
def KB (p:Addr) (H H':Hp):Prop:=∀ b o,H b=some o->b≠p->H' b=some o
theorem KB.upd {p:Addr} {H H':Hp} (k:KB p H H') (o:HO):KB p H (upd H' p o):=fun b u e n=>by rw[Ar n]; exact k b u e n
theorem KB.same {p:Addr} {H H' H'':Hp} (k:KB p H H') (s:Same H' H''):KB p H H'':=fun b u e n=>s _ _ (k b u e n)
theorem KB.free {p:Addr} {H H':Hp} {b:Addr} (k:KB p H H') (n:b≠p) (h:H' b=none):H b=none:=by
 cases z:H b with
 | none=>rfl
 | some o=>
  have:=k _ _ z n;rw[h] at this;cases this
theorem ED {i:Nat} {v:V} {nx:St->Hp->Prop} {σ:St} {H:Hp} (σ':St) (e:σ.set i (some v)=σ') (h:nx σ' H):Dw i v σ H nx:=by
 unfold Dw;rw[e];exact h
theorem Oo {t u:TS} {D:Mc} {σ:St} {H:Hp} (h:∀ N:St->Hp->Prop,N=u D->t { D with nx:=N } σ H):Wl t u D σ H:=h _ rfl
theorem Jk {i:Nat} {v:V} {N:St->Hp->Prop} {σ:St} {H:Hp} {t u:TS} {D:Mc} (eN:N=Wl t u D) (σ':St) (e:σ.set i (some v)=σ') (h:∀ N:St->Hp->Prop,N=u D->t { D with nx:=N } σ' H):Dw i v σ H N:=by
 subst eN;exact ED σ' e (h _ rfl)
theorem Lg {N:St->Hp->Prop} {σ:St} {H:Hp} {t u:TS} {D:Mc} (eN:N=Wl t u D) (h:∀ N:St->Hp->Prop,N=u D->t { D with nx:=N } σ H):N σ H:=by
 subst eN;exact h _ rfl
theorem x2 {α0 α1:Type} {P:α0->α1->Prop} (a0:α0) (a1:α1) (h:P a0 a1):∃ a0 a1,P a0 a1:=⟨a0,a1,h⟩
theorem x3 {α0 α1 α2:Type} {P:α0->α1->α2->Prop} (a0:α0) (a1:α1) (a2:α2) (h:P a0 a1 a2):∃ a0 a1 a2,P a0 a1 a2:=⟨a0,a1,a2,h⟩
theorem x4 {α0 α1 α2 α3:Type} {P:α0->α1->α2->α3->Prop} (a0:α0) (a1:α1) (a2:α2) (a3:α3) (h:P a0 a1 a2 a3):∃ a0 a1 a2 a3,P a0 a1 a2 a3:=⟨a0,a1,a2,a3,h⟩
theorem x5 {α0 α1 α2 α3 α4:Type} {P:α0->α1->α2->α3->α4->Prop} (a0:α0) (a1:α1) (a2:α2) (a3:α3) (a4:α4) (h:P a0 a1 a2 a3 a4):∃ a0 a1 a2 a3 a4,P a0 a1 a2 a3 a4:=⟨a0,a1,a2,a3,a4,h⟩
theorem c3 {p0 p1 p2:Prop} (h0:p0) (h1:p1) (h2:p2):p0/\p1/\p2:=⟨h0,h1,h2⟩
theorem c4 {p0 p1 p2 p3:Prop} (h0:p0) (h1:p1) (h2:p2) (h3:p3):p0/\p1/\p2/\p3:=⟨h0,h1,h2,h3⟩
theorem c5 {p0 p1 p2 p3 p4:Prop} (h0:p0) (h1:p1) (h2:p2) (h3:p3) (h4:p4):p0/\p1/\p2/\p3/\p4:=⟨h0,h1,h2,h3,h4⟩
theorem c6 {p0 p1 p2 p3 p4 p5:Prop} (h0:p0) (h1:p1) (h2:p2) (h3:p3) (h4:p4) (h5:p5):p0/\p1/\p2/\p3/\p4/\p5:=⟨h0,h1,h2,h3,h4,h5⟩
theorem c7 {p0 p1 p2 p3 p4 p5 p6:Prop} (h0:p0) (h1:p1) (h2:p2) (h3:p3) (h4:p4) (h5:p5) (h6:p6):p0/\p1/\p2/\p3/\p4/\p5/\p6:=⟨h0,h1,h2,h3,h4,h5,h6⟩
theorem GH {p0 p1 p2 p3 p4 p5 p6 p7 p8 p9:Prop} (h0:p0) (h1:p1) (h2:p2) (h3:p3) (h4:p4) (h5:p5) (h6:p6) (h7:p7) (h8:p8) (h9:p9):p0/\p1/\p2/\p3/\p4/\p5/\p6/\p7/\p8/\p9:=⟨h0,h1,h2,h3,h4,h5,h6,h7,h8,h9⟩
theorem Cy (l:List Str):(l.map V.str).all Ci=true:=by
 rw[List.all_map];exact zBI.mpr fun _ _=>rfl
theorem Hb {α:Type} {l:List α} {i:Nat} {x:α} (h:l[i]?=some x):l.take (i+1)=l.take i++[x]:=by
 rw[List.take_add_one,h];rfl
theorem f1 {f g:Str} {v:V} {fs:List (Str×V)} (h:¬ g=f):(Bl f v fs).lookup g=fs.lookup g:=by rw[Bo,if_neg h]
theorem f0 {f:Str} {v:V} {fs:List (Str×V)}:(Bl f v fs).lookup f=some v:=by rw[Bo,if_pos rfl]
theorem Ey (f:Str) (v:V):∀ fs:List (Str×V),(Bl f v fs).length<=fs.length+1
 | []=>zAg _
 | (g,u)::fs=>by
  unfold Bl
  split
  ·simp
  ·have:=Ey f v fs
   simp only [zAj]
   lia
def noM5 (fs:List (Str×V)):Prop:=fs.lookup ("asks" : Str)=none/\fs.lookup ("spans" : Str)=none/\fs.lookup ("window" : Str)=none/\fs.lookup ("parts" : Str)=none/\fs.lookup ("rest" : Str)=none
theorem noM5.put {f:Str} {v:V} {fs:List (Str×V)} (h:noM5 fs) (n1:¬ ("asks" : Str)=f) (n2:¬ ("spans" : Str)=f) (n3:¬ ("window" : Str)=f) (n4:¬ ("parts" : Str)=f) (n5:¬ ("rest" : Str)=f):noM5 (Bl f v fs):=
 ⟨by rw[f1 n1]; exact h.1,by rw[f1 n2]; exact h.2.1,by rw[f1 n3]; exact h.2.2.1,by rw[f1 n4]; exact h.2.2.2.1,by rw[f1 n5]; exact h.2.2.2.2⟩
def Ui:List V:=[.int 1]
def R1:Sp:=fun vs H Q _=>∃ a,vs=[.ref a]/\H a=some (.lst Ui)/\Q (.bl true) H
def Zk:Sp:=fun vs H Q _=>vs=[.int 1,.int 0,.int 1,.int 0]/\Q (.bl true) H
def Zm:Sp:=fun vs H Q _=>vs=[.int 1,.int 0,.int 1]/\Q (.int 1) H
def O4:Sp:=fun vs H Q _=>∃ a b,vs=[.ref a,.ref b,.int 0]/\H a=some (.lst Ui)/\H b=some (.lst [.int 0])/\∀ H',Same H H'->Q (.int 0) H'
def Q0:Sp:=fun vs H Q _=>∃ a,vs=[.ref a]/\H a=some (.lst Ui)/\∀ r H',Same H H'->Q (.ref r) H'
def V8 (C:Addr):Sp:=fun vs H Q _=>∃ p dx a,vs=[.ref p,.ref a]/\H p=some (.ins C dx [])/\H a=some (.lst Ui)/\∀ H',KB p H H'->Q .non H'
def U0:Sp:=fun vs H Q _=>∃ a nm,vs=[.ref a]/\H a=some (.lst [.str nm])/\Lp (.str nm)=true/\nm.length<=8/\∀ H',Same H H'->Q .non H'
section
seal L2.PS L2.PSs L2.PE L2.PA
variable {P:Program} {w:World} {K:zAb} {mg:Str->Option Value} {base:Heap} {Ad Ai Ah Ak Aq Ax Aw Ap Bj Al Az:Addr}
theorem Qw:Bb ["thing", "weight"] ["thing"] (An Gx):=by injections
theorem Pi {f:Addr} {fd:zCt} (F:Fun K "are_weights" "are_weights" Gx f fd) (T:Txt K mg) (Cis_whole:Ct P w K mg base 1 "is_whole" ["thing"] (Ft K)):FnOk P w K mg base Dv 2 f fd ["thing"] R1:=by
 have sc:=Qw;bv_omega
 ·obtain⟨_,rfl,_⟩:=h
  rfl
 obtain⟨a,rfl,ha,q⟩:=h;refine⟨_,(Ae (Bm (Bz (Bx (Bg Bt rfl T.n_isinstance (show zCs _=some (.builtin "isinstance") from rfl) (Aa (pv 0) (Aa (Fn "list" rfl T.n_list rfl) Af)))))
    (Aj (Au Cp))
    Bc)
   (Ae (Bm (PW.pt (Dk (Ay Ip (Bg Bk rfl T.n_len (show zCs _=some (.builtin "len") from rfl) (Aa (pv 0) Af)) Ac (Bd _)) (Dn (Ay Rc (Bg Bk rfl T.n_len (show zCs _=some (.builtin "len") from rfl) (Aa (pv 0) Af)) (Gp T.g_MOST_PLACES rfl) (Bd _)))))
    (Aj (Au Cp))
    Bc)
   (Ae (Dd PassesOwn.never rfl (Bn (pv 0)) (Bh (i:=1) sc.nd rfl (Or.inl rfl))
    (Aj (Bm (PW.pt (Dk (Bz (Bx (Am Cis_whole (hr.mono (by decide)) rfl (Aa (pv 1) Af)))) (Dn (Ay Ip (pv 1) Ac (Bd _)))))
    (Aj (Au Cp))
    Bc)))
   (Aj (Au (Dg Ge (Bg (Qu rfl) rfl T.n_sum (show zCs _=some (.builtin "sum") from rfl) (Aa (pv 0) Af)) (Gp T.g_MOST_TURNS rfl) (Bd _))))))),?_⟩
 refine Oo fun N eN=>?_;refine (vE rfl (x5 _ _ _ _ _ ⟨rfl,Fm,.lst ha,Tz,_,rfl,Cg ?_⟩));refine Lg eN fun N eN=>?_;refine (vE rfl (x2 a _ (c3 rfl (.inl (SqL.of ha)) (vF rfl rfl (vE rfl (dF (by decide) (vE rfl (x2 a _ (c3 rfl (.inl (SqL.of ha)) (vF rfl rfl (vE rfl (dF (by decide) ?_))))))))))));refine Lg eN fun N eN=>?_;refine (vE rfl ⟨a,rfl,⟨_,SqL.of ha⟩,?_⟩);refine Cm (K:=K) (a:=a) (xs:=Ui) (fun i σ H2=>(∃ o,σ=[some (.ref a),o])/\H2=H) ⟨⟨none,rfl⟩,rfl⟩ (fun i σ H2 _ hh=>by rw[hh.2]; exact SqL.of ha) ?_ ?_
 ·rintro i x σ H2 hi ⟨⟨o,rfl⟩,rfl⟩
  obtain rfl:x = .int 1:=by
   match i,hi with
   | 0,h=>cases h; rfl
   | i+1,h=>simp [Ui] at h
  subst eN; refine ED [some (.ref a),some (.int 1)] rfl ?_;exact (vE rfl (x2 _ _ ⟨rfl,.int 1,_,rfl,Cg (vE rfl (vF rfl rfl (vE rfl (dF (by decide) ⟨⟨_,rfl⟩,rfl⟩))))⟩))
 ·rintro σ H2 ⟨⟨o,rfl⟩,rfl⟩
  subst eN;exact (vE rfl ⟨a,[1],rfl,SqL.of ha,vF rfl rfl q⟩)
theorem Wk:Bb ["weight", "dealt", "total", "turn"] ["weight", "dealt", "total", "turn"] (An Kd):=by injections
theorem Wj {f:Addr} {fd:zCt} (F:Fun K "may_have" "may_have" Kd f fd) (T:Txt K mg):FnOk P w K mg base Dv 1 f fd ["weight", "dealt", "total", "turn"] Zk:=by
 have sc:=Wk;bv_omega
 ·obtain⟨rfl,_⟩:=h
  rfl
 obtain⟨rfl,q⟩:=h;refine⟨_,(Aj (Au (Dg Ip (Ao Fe (pv 1) (pv 2)) (Ao Fe (pv 0) (Ao Ca (pv 3) Ac)) (Bd _)))),?_⟩;exact (vE rfl (vE rfl (vF rfl rfl ⟨.inl ⟨by decide,by decide⟩,vE rfl (vE rfl (vF rfl rfl (vF rfl rfl ⟨.inl ⟨by decide,by decide⟩,vF rfl rfl q⟩)))⟩)))
theorem L0:Bb ["weight", "dealt", "total"] ["weight", "dealt", "total"] (An Qa):=by injections
theorem G7 {f:Addr} {fd:zCt} (F:Fun K "due_by" "due_by" Qa f fd) (T:Txt K mg):FnOk P w K mg base Dv 1 f fd ["weight", "dealt", "total"] Zm:=by
 have sc:=L0;bv_omega
 ·obtain⟨rfl,_⟩:=h
  rfl
 obtain⟨rfl,q⟩:=h;refine⟨_,(Aj (Au (Ao By (Ao Fy (Ao Ca (Ao Fe (Ao Ca (pv 1) Ac) (pv 2)) (pv 0)) Ac) (pv 0)))),?_⟩;exact (vE rfl (vF rfl rfl (vE rfl (vF rfl rfl ⟨.inl ⟨by decide,by decide⟩,vE rfl (vF rfl rfl (vF rfl rfl (vE rfl (vF rfl rfl ⟨⟨by decide,by decide⟩,q⟩))))⟩))))
theorem Mx:Bb ["weights", "dealt", "turn", "total", "places", "best", "place"] ["weights", "dealt", "turn"] (An Fa):=by injections
theorem Mq {f:Addr} {fd:zCt} (F:Fun K "place_of_turn" "place_of_turn" Fa f fd) (T:Txt K mg) (Cmay_have:Ct P w K mg base 1 "may_have" ["weight", "dealt", "total", "turn"] Zk) (Cdue_by:Ct P w K mg base 1 "due_by" ["weight", "dealt", "total"] Zm):FnOk P w K mg base Dv 2 f fd ["weights", "dealt", "turn"] O4:=by
 have sc:=Mx;bv_omega
 ·obtain⟨_,_,rfl,_⟩:=h
  rfl
 obtain⟨a,b,rfl,ha,hb,q⟩:=h;refine⟨_,(Ae (Ba (i:=3) sc.nd rfl (Or.inr rfl) (Bg (Qu rfl) rfl T.n_sum (show zCs _=some (.builtin "sum") from rfl) (Aa (pv 0) Af)))
   (Ae (Fp (NC:=["k", "total", "turn", "weights", "dealt"]) (own:=["k"]) (cs:=["total", "turn", "weights", "dealt"]) (ix:=[3,2,0,1]) (j:=4) sc.nd rfl rfl rfl (CompScope.of rfl) rfl ⟨⟨rfl,.inl rfl,rfl⟩,⟨⟨rfl,.inl rfl,rfl⟩,⟨⟨rfl,.inl rfl,rfl⟩,⟨⟨rfl,.inl rfl,rfl⟩,trivial⟩⟩⟩⟩ (Di rfl T.n_range (Aa (Bg Bk rfl T.n_len (show zCs _=some (.builtin "len") from rfl) (Aa (pv 0) Af)) Af)) (fun _ _ _=>(Bh (i:=0) (show (["k", "total", "turn", "weights", "dealt"]:List Str).Nodup from by ac_nf) rfl (Or.inl rfl))) (fun _ _ _=>(Go (Bx (Am Cmay_have (hr.mono (by decide)) rfl (Aa (Av (Jb (K:=K) rfl) (pv 3) (pv 0) (fun _ _=>rfl)) (Aa (Av (Jb (K:=K) rfl) (pv 4) (pv 0) (fun _ _=>rfl)) (Aa (pv 1) (Aa (pv 2) Af)))))))) (fun _ _ _=>(pv 0)))
   (Ae (Ba (i:=5) sc.nd rfl (Or.inl rfl) (Av Bu (pv 4) Ac (fun _ _=>rfl)))
   (Ae (Dd PassesOwn.never rfl (Bn (pv 4)) (Bh (i:=6) sc.nd rfl (Or.inl rfl))
    (Aj (Bm (Ay Ip (Am Cdue_by (hr.mono (by decide)) rfl (Aa (Av Bu (pv 0) (pv 6) (fun _ _=>rfl)) (Aa (Av Bu (pv 1) (pv 6) (fun _ _=>rfl)) (Aa (pv 3) Af)))) (Am Cdue_by (hr.mono (by decide)) rfl (Aa (Av Bu (pv 0) (pv 5) (fun _ _=>rfl)) (Aa (Av Bu (pv 1) (pv 5) (fun _ _=>rfl)) (Aa (pv 3) Af)))) (Bd _))
    (Aj (Ba (i:=5) sc.nd rfl (Or.inl rfl) (pv 6)))
    Bc)))
   (Aj (Au (pv 5))))))),?_⟩
 refine Oo fun N eN=>?_;refine (vE rfl ⟨a,[1],rfl,SqL.of ha,?_⟩);refine Jk eN [some (.ref a),some (.ref b),some (.int 0),some (.int 1),none,none,none] rfl fun N eN=>?_;refine (vE rfl (x2 a _ (c3 rfl (.inl (SqL.of ha)) (vE rfl ⟨by decide,by decide,fun pl npl=>?_⟩))));refine Eo (lo:=0) (n:=1) (fun i ys H2=>ys=(if i=0 then [] else [V.int 0])/\H2 pl=some (.lst ys)/\Same H H2) ⟨rfl,Ab,Ag npl _⟩ (fun i ys H2 hi ⟨e,h1,_⟩=>⟨h1,by rw[e]; split <;> simp; lia⟩) (by rw[zCr]; decide) (fun i ys H2 hi ⟨e,h1,s2⟩=>?_) (fun ys H2 ⟨e,h1,s2⟩=>?_)
 ·obtain rfl:i=0:=by lia
  rw[if_pos rfl] at e;subst e;exact (vE rfl (vE rfl (vI rfl rfl (SqL.of (s2 _ _ ha)) rfl (vE rfl (vE rfl (vI rfl rfl (SqL.of (s2 _ _ hb)) rfl (vE rfl (vE rfl ⟨rfl,vE rfl (Kn (vE rfl ⟨h1,rfl,rfl,Ab,fun c o z=>by rw[Ar (At z npl)]; exact s2 c o z⟩))⟩))))))))
 rw[if_neg (by decide)] at e;subst e;refine Jk eN [some (.ref a),some (.ref b),some (.int 0),some (.int 1),some (.ref pl),none,none] rfl fun N eN=>?_;refine (vE rfl (vI rfl rfl (SqL.of h1) rfl ?_));refine Jk eN [some (.ref a),some (.ref b),some (.int 0),some (.int 1),some (.ref pl),some (.int 0),none] rfl fun N eN=>?_;refine (vE rfl ⟨pl,rfl,⟨_,SqL.of h1⟩,?_⟩);refine Cm (K:=K) (a:=pl) (xs:=[V.int 0]) (fun i σ H3=>(∃ o,σ=[some (.ref a),some (.ref b),some (.int 0),some (.int 1),some (.ref pl),some (.int 0),o])/\H3=H2) ⟨⟨none,rfl⟩,rfl⟩ (fun i σ H3 _ hh=>by rw[hh.2]; exact SqL.of h1) ?_ ?_
 ·rintro i x σ H3 hi ⟨⟨o,rfl⟩,rfl⟩
  obtain rfl:x = .int 0:=by
   match i,hi with
   | 0,h=>cases h; rfl
   | i+1,h=>simp at h
  subst eN; refine ED [some (.ref a),some (.ref b),some (.int 0),some (.int 1),some (.ref pl),some (.int 0),some (.int 0)] rfl ?_;have A:=SqL.of (K:=K) (s2 _ _ ha);have B:=SqL.of (K:=K) (s2 _ _ hb);exact (vE rfl (vE rfl (x4 a _ _ _ (c5 rfl rfl A rfl (vE rfl (vE rfl (x4 b _ _ _ (c5 rfl rfl B rfl (vE rfl ⟨rfl,vE rfl (vE rfl (x4 a _ _ _ (c5 rfl rfl A rfl (vE rfl (vE rfl (x4 b _ _ _ (c5 rfl rfl B rfl (vE rfl ⟨rfl,vF rfl rfl (vE rfl (dF (by decide) ⟨⟨_,rfl⟩,rfl⟩))⟩))))))))⟩)))))))))
 ·rintro σ H3 ⟨⟨o,rfl⟩,rfl⟩
  subst eN;exact (vE rfl (q _ s2))
theorem W2:Bb ["weights", "dealt", "wheel", "turn", "place"] ["weights"] (An Uc):=by injections
theorem Q6 {f:Addr} {fd:zCt} (F:Fun K "turns" "turns" Uc f fd) (T:Txt K mg) (Care_weights:Ct P w K mg base 2 "are_weights" ["thing"] R1) (Cplace_of_turn:Ct P w K mg base 2 "place_of_turn" ["weights", "dealt", "turn"] O4):FnOk P w K mg base Dv 3 f fd ["weights"] Q0:=by
 have sc:=W2;bv_omega
 ·obtain⟨_,rfl,_⟩:=h
  rfl
 obtain⟨a,rfl,ha,q⟩:=h;refine⟨_,(Ae (Bm (Bz (Bx (Am Care_weights (hr.mono (by decide)) rfl (Aa (pv 0) Af))))
    (Aj Gj)
    Bc)
   (Ae (Fp (NC:=["weight"]) (own:=["weight"]) (cs:=[]) (ix:=[]) (j:=1) sc.nd rfl rfl rfl (CompScope.of rfl) rfl trivial (Bn (pv 0)) (fun _ _ _=>(Bh (i:=0) (show (["weight"]:List Str).Nodup from by ac_nf) rfl (Or.inl rfl))) (fun _ _ _=>Cr) (fun _ _ _=>Ac))
   (Ae (Ba (i:=2) sc.nd rfl (Or.inl rfl) (Bq Af))
   (Ae (Dd PassesOwn.never rfl (Di rfl T.n_range (Aa (Bg (Qu rfl) rfl T.n_sum (show zCs _=some (.builtin "sum") from rfl) (Aa (pv 0) Af)) Af)) (Bh (i:=3) sc.nd rfl (Or.inl rfl))
    (Ae (Ba (i:=4) sc.nd rfl (Or.inl rfl) (Am Cplace_of_turn (hr.mono (by decide)) rfl (Aa (pv 0) (Aa (pv 1) (Aa (pv 3) Af)))))
   (Ae (DH (Ao Ca (Av Bu (pv 1) (pv 4) (fun _ _=>rfl)) Ac) (DO (pv 1) (pv 4) S0))
   (Aj (Fu (Oe PySem.F.plainAttrs_list PySem.F.slot_list_append PySem.F.type_list_append Fx (pv 2) (Aa (pv 4) Af)))))))
   (Aj (Au (pv 2))))))),?_⟩
 refine Oo fun N eN=>?_;refine (vE rfl ⟨a,rfl,ha,_,rfl,Cg ?_⟩);refine Lg eN fun N eN=>?_;refine (vE rfl ⟨a,rfl,⟨_,SqL.of ha⟩,fun de nde=>?_⟩);refine Cc (K:=K) (a:=a) (xs:=Ui) (fun i ys H2=>ys=(if i=0 then [] else [V.int 0])/\H2 de=some (.lst ys)/\Same H H2) ⟨rfl,Ab,Ag nde _⟩ (fun i ys H2 hi ⟨e,h1,s2⟩=>⟨h1,by rw[e]; split <;> simp; lia,SqL.of (s2 _ _ ha)⟩) (by rw[zCr]; decide) (fun i x ys H2 hi ⟨e,h1,s2⟩=>?_) (fun ys H2 ⟨e,h1,s2⟩=>?_)
 ·have il:=(zAp.mp hi).1
  obtain rfl:i=0:=by have:i<1:=il; lia
  rw[if_pos rfl] at e;subst e;exact⟨h1,rfl,rfl,Ab,fun c o z=>by rw[Ar (At z nde)]; exact s2 c o z⟩
 rw[if_neg (by decide)] at e;subst e;refine Jk eN [some (.ref a),some (.ref de),none,none,none] rfl fun N eN=>?_;refine⟨zAC _,fun wh nwh=>?_⟩;have s3:=Ag nwh (.lst []);have h3:upd H2 wh (.lst []) wh=some (.lst []):=Ab;have nwd:de≠wh:=At h1 nwh;generalize upd H2 wh (.lst [])=H3 at s3 h3;refine Jk eN [some (.ref a),some (.ref de),some (.ref wh),none,none] rfl fun N eN=>?_;have S3:=s2.trans s3;refine (vE rfl ⟨a,[1],rfl,SqL.of (S3 _ _ ha),vE rfl ⟨by decide,by decide,?_⟩⟩);refine Jq (lo:=0) (n:=1) (fun i σ H4=>(∃ o3 o4,σ=[some (.ref a),some (.ref de),some (.ref wh),o3,o4])/\(i=0->H4=H3)/\Same H H4) ⟨⟨none,none,rfl⟩,fun _=>rfl,S3⟩ ?_ ?_
 ·rintro i σ H4 hi ⟨⟨o3,o4,rfl⟩,e4,s4⟩
  obtain rfl:i=0:=by lia
  obtain rfl:=e4 rfl;subst eN; refine ED [some (.ref a),some (.ref de),some (.ref wh),some (.int 0),o4] rfl ?_;refine (vE rfl (vE rfl (vE rfl (x2 a de (c4 rfl (S3 _ _ ha) (s3 _ _ h1) (fun H5 s5=>?_))))));subst eN; refine ED [some (.ref a),some (.ref de),some (.ref wh),some (.int 0),some (.int 0)] rfl ?_;have hde:=s5 _ _ (s3 _ _ h1);refine (vE rfl (vE rfl (vI rfl rfl (SqL.of hde) rfl (vF rfl rfl (vE rfl (vE rfl (x4 de _ _ 0 (c5 rfl rfl hde rfl ?_))))))));have hwh:∀ o,upd H5 de o wh=some (.lst []):=fun o=>by rw[Ar nwd.symm]; exact s5 _ _ h3
  refine (vE rfl ⟨.inl ⟨rfl,_,SqL.of (hwh _)⟩,vE rfl (x3 wh _ _ (c7 rfl rfl (hwh _) (by rw[zCr]; decide) ⟨_,_,rfl⟩ (fun e=>by lia) (fun c o z=>?_)))⟩);have fde:H de=none:=nde;rw[Ar (At z (s2.free nwh)),Ar (At z fde)];exact s5 _ _ (S3 c o z)
 ·rintro σ H4 ⟨⟨o3,o4,rfl⟩,_,s4⟩
  subst eN;exact (vE rfl (q wh H4 s4))
theorem Mn:Bb ["self", "weights"] ["self", "weights"] (An Ez):=by injections
theorem Mj {f:Addr} {fd:zCt} (F:Fun K "__init__" "Deal.__init__" Ez f fd) (T:Txt K mg) (L:Kl K mg Ad Ai Ah Ak Aq Ax Aw Ap Bj Al Az) (Cturns:Ct P w K mg base 3 "turns" ["weights"] Q0):FnOk P w K mg base Dv 4 f fd ["self", "weights"] (V8 Bj):=by
 have sc:=Mn;bv_omega
 ·obtain⟨_,_,_,rfl,_⟩:=h
  rfl
 obtain⟨p,dx,a,rfl,hp,ha,q⟩:=h;refine⟨_,(Ae (Dj (pv 0) (Am Cturns (hr.mono (by decide)) rfl (Aa (pv 1) Af)) rfl)
   (Aj (Dj (pv 0) (Ds Dc rfl T.n_list (show zCs _=some (.type "list") from rfl) (Aa (pv 1) Af)) rfl))),?_⟩
 have nap:a≠p:=Wp ha hp (by intro z; cases z);have k0:KB p H H:=fun _ _ e _=>e;refine (vE rfl ⟨a,rfl,ha,fun wh H1 s1=>?_⟩);refine (vE rfl ⟨p,Bj,dx,[],rfl,s1 _ _ hp,L.cl_Deal,L.na_Deal_wheel,(by show 0<1000; decide),?_⟩);have k2:=(k0.same s1).upd (.ins Bj dx (Bl "wheel" (.ref wh) []));refine (vE rfl (x2 a _ (c3 rfl (.inl (SqL.of (k2 _ _ ha nap))) (fun wt nwt=>?_))));have hpt:p≠wt:=fun z=>by rw[<- z,Ab] at nwt; cases nwt
 refine (vE rfl (x4 p Bj dx _ (c6 rfl (by rw[Ar hpt,Ab]) L.cl_Deal L.na_Deal_weights (by show 1<1000; decide) ?_)));exact q _ ((k2.same (Ag nwt _)).upd _)
theorem Op:Bb ["houses", "k", "house"] ["houses"] (An Ga):=by injections
theorem Oi {f:Addr} {fd:zCt} (F:Fun K "check_houses" "check_houses" Ga f fd) (T:Txt K mg) (Cis_name:Ct P w K mg base 2 "is_name" ["thing"] (To K)):FnOk P w K mg base Dv 3 f fd ["houses"] U0:=by
 have sc:=Op;bv_omega
 ·obtain⟨_,_,rfl,_⟩:=h
  rfl
 obtain⟨a,nm,rfl,ha,hn,hl8,q⟩:=h;refine⟨_,(Aj (Dd PassesOwn.never rfl (AQ rfl T.n_enumerate (Aa (pv 0) Af)) (Yj (n:=2) rfl (Et (Bh (i:=1) sc.nd rfl (Or.inl rfl)) (Et (Bh (i:=2) sc.nd rfl (Or.inl rfl)) Ov)))
    (Aj (Bm (PW.pt (Dk (Bz (Bx (Am Cis_name (hr.mono (by decide)) rfl (Aa (pv 2) Af)))) (Dn (Ay Hh (pv 2) (Hf Oz (pv 0) Lz (Hv (pv 1))) rfl))))
    (Aj Gj)
    Bc)))),?_⟩
 refine (vE rfl ⟨a,rfl,⟨_,SqL.of ha⟩,V5 (K:=K) (a:=a) (xs:=[V.str nm]) (fun i σ H2=>(∃ o1 o2,σ=[some (.ref a),o1,o2])/\Same H H2) ⟨⟨none,none,rfl⟩,fun _ _ z=>z⟩ (fun i σ H2 _ hh=>SqL.of (hh.2 _ _ ha)) ?_ ?_⟩)
 ·rintro i x σ H2 t hi ⟨⟨o1,o2,rfl⟩,s2⟩ nt
  have il:=(zAp.mp hi).1;obtain rfl:i=0:=by have:i<1:=il; lia
  obtain rfl:x = .str nm:=by cases hi; rfl
  have s3:=s2.trans (Ag nt (.tup [V.int 0,.str nm]));have q3:Lp (.str nm)=true:=hn;refine (vE rfl (x2 _ _ ⟨rfl,.str _,(fun y e=>by cases e; exact zAE hl8 (by decide)),_,rfl,?_⟩));rw[q3];refine Cg (vE rfl (vE rfl (vE rfl (vE rfl (x2 a _ (c3 rfl (SqL.of (s3 _ _ ha)) (fun m nmm=>⟨m,[],rfl,.inl (SqL.of Ab),rfl,rfl,vE rfl (Cg ⟨⟨_,_,rfl⟩,s3.trans (Ag nmm _)⟩)⟩)))))))
 ·rintro σ H2 ⟨⟨o1,o2,rfl⟩,s2⟩
  exact q _ s2
end
def Xt (C:Addr):Sp:=fun vs H Q _=>∃ p dx nm cd,∃ wv:Bool,vs=[.ref p,.str nm,cd,.non,.non,.bl wv]/\H p=some (.ins C dx [])/\(Lp (.str nm)=true/\nm.length<=8/\nm ≠ "self") /\
 ∀ H' cl d0 fs,KB p H H'->H' p=some (.ins C d0 fs)->fs.lookup ("name" : Str)=some (.str nm)->fs.lookup ("condition" : Str)=some cd->fs.lookup ("clauses" : Str)=some (.ref cl)->fs.lookup ("waits" : Str)=some (.bl wv)->noM5 fs->H' cl=some (.lst [])->H cl=none->Q .non H'
section
variable {P:Program} {w:World} {K:zAb} {mg:Str->Option Value} {base:Heap} {Ad Ai Ah Ak Aq Ax Aw Ap Bj Al Az:Addr}
theorem Lf:Bb ["self", "name", "condition", "clauses", "houses", "waits", "pairs"] ["self", "name", "condition", "clauses", "houses", "waits"] (An Bw):=by injections
seal L2.PS L2.PSs L2.PE L2.PA
theorem Le {f:Addr} {fd:zCt} (F:FunD K "__init__" "Cover.__init__" Bw f fd) (T:Txt K mg) (L:Kl K mg Ad Ai Ah Ak Aq Ax Aw Ap Bj Al Az) (Cis_name:Ct P w K mg base 2 "is_name" ["thing"] (To K)) (Ccheck_houses:Ct P w K mg base 3 "check_houses" ["houses"] U0)
  (KDeal:Gr P w K mg base 4 "Deal" Bj ["self", "weights"] (V8 Bj)):FnOk P w K mg base Dv 6 f fd ["self", "name", "condition", "clauses", "houses", "waits"] (Xt Al):=by
 have sc:=Lf;bv_omega
 ·obtain⟨_,_,_,_,_,rfl,_⟩:=h
  rfl
 obtain⟨p,dx,nm,cd,wv,rfl,hp,⟨nx,n8,ns⟩,q⟩:=h;refine⟨_,(Ae (Bm (PW.pt (Dk (Bz (Bx (Am Cis_name (hr.mono (by decide)) rfl (Aa (pv 1) Af)))) (Dn (Ay Db (pv 1) (Fo T.g_COVERED_ONE rfl) (Bd _)))))
    (Aj Gj)
    Bc)
   (Ae (Dj (pv 0) (pv 1) rfl)
   (Ae (Dj (pv 0) (pv 2) rfl)
   (Ae (Dj (pv 0) (Hk (Ay T0 (pv 3) Tp (Bd _)) (Bq Af) (Ds Dc rfl T.n_list (show zCs _=some (.type "list") from rfl) (Aa (pv 3) Af))) rfl)
   (Ae (Bm (Ay Rc (Bg Bk rfl T.n_len (show zCs _=some (.builtin "len") from rfl) (Aa (Er (pv 0) rfl) Af)) (Gp T.g_MOST_CLAUSES rfl) (Bd _))
    (Aj Gj)
    Bc)
   (Ae (Ba (i:=6) sc.nd rfl (Or.inl rfl) (Hk (Ay T0 (pv 4) Tp (Bd _)) (Bq (Aa (Cj (Aa (pv 1) (Aa Ac Af))) Af)) (pv 4)))
   (Ae (Dj (pv 0) (Da (NC:=["pair"]) (own:=["pair"]) (cs:=[]) (ix:=[]) rfl (CompScope.of rfl) rfl trivial (Bn (pv 6)) (fun _ _ _=>(Bh (i:=0) (show (["pair"]:List Str).Nodup from by ac_nf) rfl (Or.inl rfl))) (fun _ _ _=>Cr) (fun _ _ _=>(Av (Gn (K:=K) rfl) (pv 0) Ac (fun _ _=>rfl)))) rfl)
   (Ae (Fu (Am Ccheck_houses (hr.mono (by decide)) rfl (Aa (Er (pv 0) rfl) Af)))
   (Ae (Dj (pv 0) (Eb KDeal (hr.mono (by decide)) rfl (Aa (Da (NC:=["pair"]) (own:=["pair"]) (cs:=[]) (ix:=[]) rfl (CompScope.of rfl) rfl trivial (Bn (pv 6)) (fun _ _ _=>(Bh (i:=0) (show (["pair"]:List Str).Nodup from by ac_nf) rfl (Or.inl rfl))) (fun _ _ _=>Cr) (fun _ _ _=>(Av (Gn (K:=K) rfl) (pv 0) Ac (fun _ _=>rfl)))) Af)) rfl)
   (Aj (Dj (pv 0) (pv 5) rfl))))))))))),?_⟩
 refine Oo fun N eN=>?_;have k0:KB p H H:=fun _ _ e _=>e;have one:1<=sizeLine:=by rw[zCr]; decide
 have two:2<=sizeLine:=by rw[zCr]; decide
 refine (vE rfl ⟨_,_,rfl,.str nm,(fun y e=>by cases e; exact zAE n8 (by decide)),_,rfl,?_⟩);rw[nx];refine Cg (vE rfl ⟨rfl,vE rfl (dF (fun e=>ns (V.str.inj e)) ?_)⟩);refine Lg eN fun N eN=>?_;refine (vE rfl (vE rfl ⟨p,Al,dx,[],rfl,hp,L.cl_Cover,L.na_Cover_name,by decide,?_⟩));refine Lg eN fun N eN=>?_;refine (vE rfl (vE rfl ⟨p,Al,dx,_,rfl,Ab,L.cl_Cover,L.na_Cover_condition,zCg (Ey _ _ _) (by decide),?_⟩));have k2:KB p H (upd (upd H p (.ins Al dx (Bl "name" (.str nm) []))) p (.ins Al dx (Bl "condition" cd (Bl "name" (.str nm) [])))):=KB.upd (KB.upd k0 _) _;have e2:upd (upd H p (.ins Al dx (Bl "name" (.str nm) []))) p (.ins Al dx (Bl "condition" cd (Bl "name" (.str nm) []))) p=some (.ins Al dx (Bl "condition" cd (Bl "name" (.str nm) []))):=Ab;have g2:(Bl "condition" cd (Bl "name" (.str nm) [])).length<=2:=zAE (Ey _ _ _) (Nat.succ_le_succ (Ey _ _ _));have n2:(Bl "condition" cd (Bl "name" (.str nm) [])).lookup ("name" : Str)=some (.str nm)/\(Bl "condition" cd (Bl "name" (.str nm) [])).lookup ("condition" : Str)=some cd:=⟨by rw[f1 (by ac_nf),f0],f0⟩;have a2:noM5 (Bl "condition" cd (Bl "name" (.str nm) [])):=noM5.put (noM5.put ⟨rfl,rfl,rfl,rfl,rfl⟩ (by ac_nf) (by ac_nf) (by ac_nf) (by ac_nf) (by ac_nf)) (by ac_nf) (by ac_nf) (by ac_nf) (by ac_nf) (by ac_nf);generalize Bl "condition" cd (Bl "name" (.str nm) [])=fs2 at k2 e2 g2 n2 a2;generalize upd (upd H p (.ins Al dx (Bl "name" (.str nm) []))) p (.ins Al dx fs2)=H2 at k2 e2
 refine Lg eN fun N eN=>?_;refine (vE rfl ⟨rfl,vE rfl (dT rfl ⟨zAC _,fun cl ncl=>?_⟩)⟩);have s3:=Ag ncl (.lst []);have ncp:cl≠p:=(At e2 ncl).symm;have fcl:H cl=none:=k2.free ncp ncl;refine (vE rfl ⟨p,Al,dx,fs2,rfl,s3 _ _ e2,L.cl_Cover,L.na_Cover_clauses,by lia,?_⟩);have k3:=(k2.same s3).upd (.ins Al dx (Bl "clauses" (.ref cl) fs2));have e3:upd (upd H2 cl (.lst [])) p (.ins Al dx (Bl "clauses" (.ref cl) fs2)) p=some (.ins Al dx (Bl "clauses" (.ref cl) fs2)):=Ab;have c3:upd (upd H2 cl (.lst [])) p (.ins Al dx (Bl "clauses" (.ref cl) fs2)) cl=some (.lst []):=by rw[Ar ncp,Ab]
 have g3:(Bl "clauses" (.ref cl) fs2).length<=3:=zAE (Ey _ _ _) (by lia);have n3:(Bl "clauses" (.ref cl) fs2).lookup ("name" : Str)=some (.str nm)/\(Bl "clauses" (.ref cl) fs2).lookup ("condition" : Str)=some cd/\(Bl "clauses" (.ref cl) fs2).lookup ("clauses" : Str)=some (.ref cl):=⟨by rw[f1 (by ac_nf)]; exact n2.1,by rw[f1 (by ac_nf)]; exact n2.2,f0⟩;have a3:noM5 (Bl "clauses" (.ref cl) fs2):=a2.put (by ac_nf) (by ac_nf) (by ac_nf) (by ac_nf) (by ac_nf);generalize Bl "clauses" (.ref cl) fs2=fs3 at k3 e3 c3 g3 n3 a3;generalize upd (upd H2 cl (.lst [])) p (.ins Al dx fs3)=H3 at k3 e3 c3;refine Lg eN fun N eN=>?_;refine (vE rfl ⟨p,Al,dx,fs3,_,rfl,e3,L.cl_Cover,L.na_Cover_clauses,n3.2.2,cl,_,rfl,.inl (SqL.of c3),vF rfl rfl (vE rfl (dF (by decide) ?_))⟩);refine Lg eN fun N eN=>?_;refine (vE rfl ⟨rfl,vE rfl (dT rfl (vE rfl ⟨two,fun t nt=>⟨one,fun h0 nh0=>?_⟩⟩))⟩);refine Jk eN [some (.ref p),some (.str nm),some cd,some .non,some .non,some (.bl wv),some (.ref h0)] rfl fun N eN=>?_;have sx:=(Ag nt (.tup [V.str nm,.int 1])).trans (Ag nh0 (.lst [V.ref t]));have hh:upd (upd H3 t (.tup [V.str nm,.int 1])) h0 (.lst [V.ref t]) h0=some (.lst [V.ref t]):=Ab;have ht:upd (upd H3 t (.tup [V.str nm,.int 1])) h0 (.lst [V.ref t]) t=some (.tup [V.str nm,.int 1]):=Ag nh0 _ _ _ Ab;have nhp0:h0≠p:=fun e=>by rw[e,Ag nt _ _ _ e3] at nh0; cases nh0
 have ntp:t≠p:=fun e=>by rw[e,e3] at nt; cases nt
 replace k3:=k3.same sx;replace e3:=sx _ _ e3;replace c3:=sx _ _ c3;generalize upd (upd H3 t (.tup [V.str nm,.int 1])) h0 (.lst [V.ref t])=H3 at hh ht k3 e3 c3;have hh3:=hh;have ht3:=ht;have g1of:∀ {i:Nat} {x:V},[V.ref t][i]?=some x->i=0/\x = .ref t:=fun {i x} h=>by
  match i,h with
  | 0,h=>cases h; exact⟨rfl,rfl⟩
  | i+1,h=>simp at h
 refine (vE rfl ⟨h0,rfl,⟨_,SqL.of hh3⟩,fun h1 nh=>?_⟩);refine Cc (K:=K) (a:=h0) (xs:=[V.ref t]) (fun i zs H5=>zs=(if i=0 then [] else [V.str nm])/\H5 h1=some (.lst zs)/\Same H3 H5) ⟨rfl,Ab,Ag nh _⟩ (fun i zs H5 hi ⟨e,h1',s5⟩=>⟨h1',by rw[e]; split <;> simp; lia,SqL.of (s5 _ _ hh3)⟩) (by rw[zCr]; show 1<=16777216; decide) (fun i x zs H5 hi ⟨e,h1',s5⟩=>?_) (fun zs H5 ⟨e,h1',s5⟩=>?_)
 ·obtain⟨rfl,rfl⟩:=g1of hi
  rw[if_pos rfl] at e;subst e;exact (vE rfl (vI rfl rfl (SqT.of (s5 _ _ ht3)) rfl ⟨h1',rfl,rfl,Ab,fun b o z=>by rw[Ar (At z nh)]; exact s5 b o z⟩))
 rw[if_neg (by show ¬ 1=0; decide)] at e;subst e;have e5:=s5 _ _ e3;have nhp:h1≠p:=(At e3 nh).symm;have fh1:H h1=none:=k3.free nhp nh;refine (vE rfl ⟨p,Al,dx,fs3,rfl,e5,L.cl_Cover,L.na_Cover_houses,by lia,?_⟩);have k6:=(k3.same s5).upd (.ins Al dx (Bl "houses" (.ref h1) fs3));have e6:upd H5 p (.ins Al dx (Bl "houses" (.ref h1) fs3)) p=some (.ins Al dx (Bl "houses" (.ref h1) fs3)):=Ab;have h6:upd H5 p (.ins Al dx (Bl "houses" (.ref h1) fs3)) h1=some (.lst [.str nm]):=by rw[Ar nhp]; exact h1'
 have c6:upd H5 p (.ins Al dx (Bl "houses" (.ref h1) fs3)) cl=some (.lst []):=by rw[Ar ncp]; exact s5 _ _ c3
 have hh6:upd H5 p (.ins Al dx (Bl "houses" (.ref h1) fs3)) h0=some (.lst [V.ref t]):=by rw[Ar nhp0]; exact s5 _ _ hh3
 have ht6:upd H5 p (.ins Al dx (Bl "houses" (.ref h1) fs3)) t=some (.tup [V.str nm,.int 1]):=by rw[Ar ntp]; exact s5 _ _ ht3
 have g6:(Bl "houses" (.ref h1) fs3).length<=4:=zAE (Ey _ _ _) (by lia);have n6:(Bl "houses" (.ref h1) fs3).lookup ("name" : Str)=some (.str nm)/\(Bl "houses" (.ref h1) fs3).lookup ("condition" : Str)=some cd/\(Bl "houses" (.ref h1) fs3).lookup ("clauses" : Str)=some (.ref cl)/\(Bl "houses" (.ref h1) fs3).lookup ("houses" : Str)=some (.ref h1):=⟨by rw[f1 (by ac_nf)]; exact n3.1,by rw[f1 (by ac_nf)]; exact n3.2.1,by rw[f1 (by ac_nf)]; exact n3.2.2,f0⟩;have a6:noM5 (Bl "houses" (.ref h1) fs3):=a3.put (by ac_nf) (by ac_nf) (by ac_nf) (by ac_nf) (by ac_nf);generalize Bl "houses" (.ref h1) fs3=fs6 at e6 h6 c6 k6 g6 n6 a6 hh6 ht6;generalize upd H5 p (.ins Al dx fs6)=H6 at e6 h6 c6 k6 hh6 ht6;refine Lg eN fun N eN=>?_;refine (vE rfl ⟨p,Al,dx,fs6,_,rfl,e6,L.cl_Cover,L.na_Cover_houses,n6.2.2.2,h1,nm,rfl,h6,nx,n8,fun H7 s7=>?_⟩);have hh7:=s7 _ _ hh6;have ht7:=s7 _ _ ht6;refine Lg eN fun N eN=>?_;refine (vE rfl ⟨h0,rfl,⟨_,SqL.of hh7⟩,fun wl nwl=>?_⟩);refine Cc (K:=K) (a:=h0) (xs:=[V.ref t]) (fun i zs H8=>zs=(if i=0 then [] else Ui)/\H8 wl=some (.lst zs)/\Same H7 H8) ⟨rfl,Ab,Ag nwl _⟩ (fun i zs H8 hi ⟨e,h2,s8⟩=>⟨h2,by rw[e]; split <;> simp [Ui]; lia,SqL.of (s8 _ _ hh7)⟩) (by rw[zCr]; show 1<=16777216; decide) (fun i x zs H8 hi ⟨e,h2,s8⟩=>?_) (fun zs H8 ⟨e,h2,s8⟩=>?_)
 ·obtain⟨rfl,rfl⟩:=g1of hi
  rw[if_pos rfl] at e;subst e;exact (vE rfl (vI rfl rfl (SqT.of (s8 _ _ ht7)) rfl ⟨h2,rfl,rfl,Ab,fun b o z=>by rw[Ar (At z nwl)]; exact s8 b o z⟩))
 rw[if_neg (by show ¬ 1=0; decide)] at e;subst e;intro d dd nd ndd nde;have s9:Same H8 (upd (upd H8 dd (.own d)) d (.ins Bj dd [])):=(Ag ndd _).trans (Ag (by rw[Ar (Ne.symm nde)]; exact nd) _);refine⟨d,dd,wl,rfl,Ab,s9 _ _ h2,fun H9 kp9=>⟨rfl,?_⟩⟩;have s10:Same H6 H9:=s7.trans (s8.trans (Jp nd ndd kp9));refine (vE rfl ⟨p,Al,dx,fs6,rfl,s10 _ _ e6,L.cl_Cover,L.na_Cover_deal,by lia,?_⟩);have g10:(Bl "deal" (.ref d) fs6).length<=5:=zAE (Ey _ _ _) (by lia);subst eN;refine (vE rfl (vE rfl ⟨p,Al,dx,_,rfl,Ab,L.cl_Cover,L.na_Cover_waits,by lia,?_⟩));have lk:∀ {f:Str} {v:V},fs6.lookup f=some v->¬ f = "deal" -> ¬ f = "waits" -> (Bl "waits" (.bl wv) (Bl "deal" (.ref d) fs6)).lookup f=some v:=fun h n1 n2=>by rw[f1 n2,f1 n1]; exact h
 refine q _ cl dx _ (((k6.same s10).upd _).upd _) Ab (lk n6.1 (by ac_nf) (by ac_nf)) (lk n6.2.1 (by ac_nf) (by ac_nf)) (lk n6.2.2.1 (by ac_nf) (by ac_nf)) f0 (noM5.put (a6.put (by ac_nf) (by ac_nf) (by ac_nf) (by ac_nf) (by ac_nf)) (by ac_nf) (by ac_nf) (by ac_nf) (by ac_nf) (by ac_nf)) ?_ fcl
 ·rw[Ar ncp,Ar ncp]; exact s10 _ _ c6
end
def DS:Nat->Nat->List Nat->List Nat
 | 0,_,acc=>acc
 | _+1,0,acc=>acc
 | f+1,l+1,acc=>DS f (l/26) ((97+l%26)::acc)
theorem Zx:∀ (f g l:Nat) (acc:List Nat),l<=f->l<=g->DS f l acc=DS g l acc
 | 0,0,_,_,_,_=>rfl
 | 0,g+1,l,acc,h,_=>by
  obtain rfl:l=0:=by lia
  rfl
 | f+1,0,l,acc,_,h=>by
  obtain rfl:l=0:=by lia
  rfl
 | f+1,g+1,0,acc,_,_=>rfl
 | f+1,g+1,l+1,acc,h1,h2=>Zx f g (l/26) _ (by lia) (by lia)
def Gm (n:Nat):List Nat:=DS (n+1) (n+1) []
def lettersL:List Nat:=(zAM 26).map (97 + ·)
theorem Hm:Str.ofString "abcdefghijklmnopqrstuvwxyz" = tx lettersL:=by ac_nf
theorem J4 {i:Nat} {v:V} {t2:TS} {D:Mc} {σ:St} {H:Hp} (σ':St) (e:σ.set i (some v)=σ') (h:t2 D σ' H):Wl (Ya (tC v) (Dw i)) t2 D σ H:=by
 show t2 D (σ.set i (some v)) H;rw[e];exact h
theorem Gk {i:Nat} {v:V} {nx:St->Hp->Prop} {σ:St} {H:Hp} (σ':St) (e:σ.set i (some v)=σ') (h:nx σ' H):Dw i v σ H nx:=by
 unfold Dw;rw[e];exact h
theorem M3 {α:Type} {l:List α} {i:Nat} {x:α} (h:l[i]?=some x):l.take (i+1)=l.take i++[x]:=by
 rw[List.take_add_one,h];rfl
def V2:Sp:=fun vs H Q _=>∃ n:Nat,vs=[.int n]/\n<=700/\Q (.str (tx (Gm n))) H
section
variable {P:Program} {w:World} {K:zAb} {mg:Str->Option Value} {base:Heap}
theorem Zf:Bb ["place", "name", "left"] ["place"] (An Mh):=by injections
theorem Yn {f:Addr} {fd:zCt} (F:Fun K "name_at" "name_at" Mh f fd) (T:Txt K mg):FnOk P w K mg base Dv 1 f fd ["place"] V2:=by
 have sc:=Zf;bv_omega
 ·obtain⟨_,rfl,_⟩:=h
  rfl
 obtain⟨n,rfl,n7,q⟩:=h;refine⟨_,(Ae (Ba (i:=1) sc.nd rfl (Or.inl rfl) Bi)
   (Ae (Ba (i:=2) sc.nd rfl (Or.inl rfl) (Ao Ca (pv 0) Ac))
   (Ae (Pl PassesOwn.never (Ay Rc (pv 2) Ac (Bd _))
    (Ae (Ba (i:=1) sc.nd rfl (Or.inl rfl) (Ao Ke (Av Pz (Fo T.g_LETTERS rfl) (Ao Br (Ao Fy (pv 2) Ac) (Bg Ih rfl T.n_len (show zCs _=some (.builtin "len") from rfl) (Aa (Fo T.g_LETTERS rfl) Af))) (fun _ _=>rfl)) (pv 1)))
   (Aj (Ba (i:=2) sc.nd rfl (Or.inl rfl) (Ao By (Ao Fy (pv 2) Ac) (Bg Ih rfl T.n_len (show zCs _=some (.builtin "len") from rfl) (Aa (Fo T.g_LETTERS rfl) Af)))))))
   (Aj (Au (pv 1)))))),?_⟩
 refine J4 [some (.int n),some (.str ""),none] rfl ?_;refine (vE rfl (vF rfl rfl ?_));refine Gk [some (.int n),some (.str ""),some (.int ((n:Int)+1))] rfl ?_;have lle:(Str.ofString "abcdefghijklmnopqrstuvwxyz").length<=sizeLine:=by rw[Hm,Ij]; exact Ce (by show 26<=1000; decide)
 have llen:((Str.ofString "abcdefghijklmnopqrstuvwxyz").length:Int)=26:=by rw[Hm,Ij]; rfl
 refine⟨fun m σ' H'=>H'=H/\∃ acc,σ'=[some (.int n),some (.str (tx acc)),some (.int (m:Int))]/\DS m m acc=Gm n/\acc.length+m<=701,⟨n+1,rfl,[],rfl,rfl,by show 0+(n+1)<=701; lia⟩,?_⟩;rintro m σ' H' ⟨rfl,acc,rfl,e,l⟩;refine (vE rfl (vF rfl rfl (vE rfl ?_)))
 match m,e,l with
 | 0,e,l=>
  refine dF (by decide) ?_;have e':acc=Gm n:=e;refine (vE rfl ?_);rw[e'];exact q
 | k+1,e,l=>
  refine dT (by show (0:Int)<((k+1:Nat):Int); lia) ⟨fun σ2 H2=>H2=H'/\σ2=[some (.int n),some (.str (tx ((97+k%26)::acc))),some (.int ((k/26:Nat):Int))],fun σ2 H2 ⟨h1,h2⟩=>⟨k/26,by lia,h1,_,h2,?_,?_⟩,?_⟩
  ·rw[<- e]
   show DS (k/26) (k/26) _=DS k (k/26) ((97+k%26)::acc);exact Zx _ _ _ _ (zAg _) (by lia)
  ·rw[zAj]
   lia
  have at1:Nt (Str.ofString "abcdefghijklmnopqrstuvwxyz").cps.toList ((((k+1:Nat):Int)-1)%26)=some (97+k%26):=by
   rw[show (((k+1:Nat):Int)-1)%26=((k%26:Nat):Int) by lia];refine Fq ?_;rw[Hm,R3];unfold lettersL;rw[zAl,zBZ (by lia)];rfl
  refine (vE rfl (vF rfl rfl ⟨_,rfl,lle,?_⟩));rw[llen];refine (vF rfl rfl ⟨(by show (0:Int)<26; decide),_,_,_,rfl,rfl,lle,at1,vE rfl (vF rfl rfl ⟨?_,?_⟩)⟩)
  ·rw[Ij]
   exact Ce (by show 1+acc.length<=1000; lia)
  have ea:(⟨#[97+k%26]⟩:Str)++tx acc=tx ((97+k%26)::acc):=M8 [97+k%26] acc;rw[ea];refine Gk [some (.int n),some (.str (tx ((97+k%26)::acc))),some (.int ((k+1:Nat):Int))] rfl ?_;refine (vE rfl (vF rfl rfl ⟨_,rfl,lle,?_⟩));rw[llen];refine (vF rfl rfl ⟨⟨by decide,by decide⟩,?_⟩);refine Gk [some (.int n),some (.str (tx ((97+k%26)::acc))),some (.int ((k/26:Nat):Int))] ?_ ⟨rfl,rfl⟩;have:(((k+1:Nat):Int)-1)/26=((k/26:Nat):Int):=by lia
  exact congrArg (fun z:Int=>[some (V.int n),some (V.str (tx ((97+k%26)::acc))),some (V.int z)]) this
theorem Es {α:Type} [DecidableEq α]:∀ {l m:List α},l.Nodup->(∀ x∈l,x∈m)->l.length<=m.length
 | [],_,_,_=>zAC _
 | x::l,m,nd,h=>by
  rw[zBp] at nd;have hx:=h x zAo;have ih:=Es (l:=l) (m:=m.erase x) nd.2 fun y hy=>by
   have ne:y≠x:=fun e=>nd.1 (by rw[<- e]; exact hy);exact (List.mem_erase_of_ne ne).mpr (h y (zAm _ hy))
  rw[zCh hx] at ih;have:=zCl hx;rw[zAj]
  lia
theorem U3:((zAM 62).map Gm).Nodup:=by ac_nf
theorem T9 {ns:List Str} {p:Nat} (p6:p<=62) (h:∀ j,j<p->tx (Gm j)∈ns):p<=ns.length:=by
 have nd:((zAM p).map fun j=>tx (Gm j)).Nodup:=by
  have a:=U3;rw[zAJ,zBo] at a ⊢;have b:(zAM p).Sublist (zAM 62):=List.range_sublist.mpr p6;exact (a.sublist b).imp fun n e=>n (CM e)
 have:=Es (m:=ns) nd fun x hx=>by
  obtain⟨j,hj,rfl⟩:=zAA.mp hx;exact h j (zBz.mp hj)
 rwa [zAa,zAP] at this
def Hg:Sp:=fun vs H Q _=>∃ a ns,vs=[.ref a]/\H a=some (.lst (List.map V.str ns))/\ns.length<=60/\∀ p H',Same H H'->p<=60->tx (Gm p)∉ns->(∀ j,j<p->tx (Gm j)∈ns)->Q (.str (tx (Gm p))) H'
theorem Xz:Bb ["names", "taken", "name", "place"] ["names"] (An Mr):=by injections
theorem Xp {f:Addr} {fd:zCt} (F:Fun K "another" "another" Mr f fd) (T:Txt K mg) (Cname_at:Ct P w K mg base 1 "name_at" ["place"] V2):FnOk P w K mg base Dv 2 f fd ["names"] Hg:=by
 have sc:=Xz;bv_omega
 ·obtain⟨_,_,rfl,_⟩:=h
  rfl
 obtain⟨a,ns,rfl,ha,l6,q⟩:=h;have hu2:=ET hr;refine⟨_,(Ae (Ba (i:=1) sc.nd rfl (Or.inl rfl) W4)
   (Ae (Dd PassesOwn.never rfl (Bn (pv 0)) (Bh (i:=2) sc.nd rfl (Or.inl rfl))
    (Aj (AR hu2 (pv 1) (pv 2) Cp rfl)))
   (Ae (Ba (i:=3) sc.nd rfl (Or.inl rfl) Ac)
   (Ae (Pl PassesOwn.never (DF (DK hu2 (Am Cname_at (hr.mono (by decide)) rfl (Aa (pv 3) Af)) (pv 1)))
    (Aj (Ba (i:=3) sc.nd rfl (Or.inl rfl) (Ao Ca (pv 3) Ac))))
   (Aj (Au (Am Cname_at (hr.mono (by decide)) rfl (Aa (pv 3) Af)))))))),?_⟩
 intro d nd;refine Gk [some (.ref a),some (.ref d),none,none] rfl ?_;have s1:=Ag nd (.dK []);have h1:upd H d (.dK []) d=some (.dK []):=Ab;generalize upd H d (.dK [])=H1 at s1 h1;have ha1:=s1 _ _ ha;have nad:a≠d:=At ha nd;refine (vE rfl ⟨a,rfl,⟨_,SqL.of ha1⟩,?_⟩);refine Cm (K:=K) (a:=a) (xs:=ns.map V.str) (fun i σ H2=>(∃ o2,σ=[some (.ref a),some (.ref d),o2,none])/\(∃ kvs,H2 d=some (.dK kvs)/\kvs.length<=i/\∀ y,(Gu kvs (.inr y)).isSome=decide (y∈ns.take i))/\∀ b o,H1 b=some o->b≠d->H2 b=some o)
  ⟨⟨none,rfl⟩,⟨[],h1,zAg _,fun y=>by rw[zAY]; rfl⟩,fun _ _ y _=>y⟩ (fun i σ H2 _ hh=>SqL.of (hh.2.2 _ _ ha1 nad)) ?_ ?_
 ·rintro i x σ H2 hi ⟨⟨o2,rfl⟩,⟨kvs,hd,lk,iff⟩,kp⟩
  rw[zAl] at hi;obtain⟨y,hy,rfl⟩:=zAy.mp hi;have il:=(zAp.mp hy).1;refine Gk [some (.ref a),some (.ref d),some (.str y),none] rfl ?_;refine (vE rfl (vE rfl ⟨d,_,rfl,DPut.k (k:=.inr y) hd (by rw[zCr]; lia),?_⟩));refine⟨⟨_,rfl⟩,⟨_,Ab,zAE (Jc _ _ _) (by lia),fun z=>?_⟩,fun b o e n=>by rw[Ar n]; exact kp b o e n⟩;rw[U7,M3 hy];by_cases c:(Sum.inr z:Fc) = .inr y
  ·rw[if_pos c,show z=y from Sum.inr.inj c]
   exact (decide_eq_true (zAI _ (zAk.mpr rfl))).symm
  ·rw[if_neg c,iff]
   have:(z∈ns.take i++[y])↔z∈ns.take i:=by
    rw[zAW,zAk];exact⟨fun e=>e.elim id fun e=>absurd (congrArg Sum.inr e) c,.inl⟩
   exact decide_eq_decide.mpr this.symm
 ·rintro σ H2 ⟨⟨o2,rfl⟩,⟨kvs,hd,lk,iff⟩,kp⟩
  rw[zAa,zAz] at iff;have sH:Same H H2:=fun b o e=>kp b o (s1 b o e) (At e nd);refine J4 [some (.ref a),some (.ref d),o2,some (.int 0)] rfl ?_;refine⟨fun m σ' H'=>H'=H2/\∃ p:Nat,σ'=[some (.ref a),some (.ref d),o2,some (.int (p:Int))]/\p+m=62/\∀ j,j<p->tx (Gm j)∈ns,⟨62,rfl,0,rfl,by lia,fun j hj=>absurd hj (zBc _)⟩,?_⟩;rintro m σ' H' ⟨rfl,p,rfl,em,all⟩;have pf:=T9 (by lia) all;refine (vE rfl ⟨p,rfl,by lia,vE rfl ⟨d,_,rfl,DGet.k (k:=.inr (tx (Gm p))) hd,_,rfl,?_⟩⟩);rw[iff];by_cases c:tx (Gm p)∈ns
  ·rw[decide_eq_true c]
   refine Kn ⟨fun σ2 H2=>H2=H'/\σ2=[some (.ref a),some (.ref d),o2,some (.int ((p+1:Nat):Int))],fun σ2 H2 ⟨h1,h2⟩=>⟨m-1,by lia,h1,p+1,h2,by lia,fun j hj=>?_⟩,?_⟩
   ·by_cases e:j=p
    ·rw[e]; exact c
    ·exact all j (by lia)
   ·exact (vE rfl (vF rfl rfl (Gk [some (.ref a),some (.ref d),o2,some (.int ((p+1:Nat):Int))] rfl ⟨rfl,rfl⟩)))
  ·rw[decide_eq_false c]
   refine Cg (vE rfl ⟨p,rfl,by lia,?_⟩);exact q p _ sH (by lia) c all
end
theorem Bv {H H':Hp} {p:Addr} {o:HO} (h:H p=none) (s:Same H H'):Same H (upd H' p o):=fun b u e=>by rw[Ar (At e h)]; exact s _ _ e
theorem Cd {α:Type} {l:List α} {i:Nat} {x:α} (h:l[i]?=some x):l.take (i+1)=l.take i++[x]:=by
 rw[List.take_add_one,h];rfl
def Iq (C:Addr) (f:Str):Sp:=fun vs H Q _=>∃ p dx v,vs=[.ref p,v]/\H p=some (.ins C dx [])/\Q .non (upd H p (.ins C dx (Bl f v [])))
def P9 (C:Addr):Sp:=fun vs H Q _=>∃ p dx v w,vs=[.ref p,v,w]/\H p=some (.ins C dx [])/\∀ H',(∀ b,b≠p->H' b=H b)->H' p=some (.ins C dx (Bl "last" w (Bl "first" v [])))->Q .non H'
def Si (C:Addr):Sp:=fun vs H Q _=>∃ p dx a xs,vs=[.ref p,.ref a]/\H p=some (.ins C dx [])/\H a=some (.lst xs)/\∀ l H',H l=none->(∀ b,b≠p->b≠l->H' b=H b)->H' p=some (.ins C dx (Bl "several" (.ref l) []))->H' l=some (.lst xs)->Q .non H'
section
variable {P:Program} {w:World} {K:zAb} {mg:Str->Option Value} {base:Heap} {Ad Ai Ah Ak Aq Ax Aw Ap Bj Al Az:Addr}
theorem BQ (L:Kl K mg Ad Ai Ah Ak Aq Ax Aw Ap Bj Al Az):(A8.mk Ad Ai Ah Ak Aq Ax Aw Ap).l.Nodup:=by
 first
  | exact L.nd
  | exact List.Nodup.sublist (List.sublist_append_left (A8.mk Ad Ai Ah Ak Aq Ax Aw Ap).l _) L.nd
theorem Jv:Bb ["self", "name"] ["self", "name"] (An Ef):=by injections
theorem Ka {f:Addr} {fd:zCt} (F:Fun K "__init__" "CauseIs.__init__" Ef f fd) (L:Kl K mg Ad Ai Ah Ak Aq Ax Aw Ap Bj Al Az):FnOk P w K mg base Dv 1 f fd ["self", "name"] (Iq Ai "name"):=by
 have sc:=Jv;bv_omega
 ·obtain⟨_,_,_,rfl,_⟩:=h
  rfl
 obtain⟨p,dx,n,rfl,hp,q⟩:=h;refine⟨_,(Aj (Dj (pv 0) (pv 1) rfl)),?_⟩;exact (vE rfl (vE rfl ⟨p,_,dx,_,rfl,hp,L.cl_CauseIs,L.na_CauseIs_name,(by show 0<1000; decide),q⟩))
theorem Ju:Bb ["self", "name"] ["self", "name"] (An Ec):=by injections
theorem Jz {f:Addr} {fd:zCt} (F:Fun K "__init__" "ThingIs.__init__" Ec f fd) (L:Kl K mg Ad Ai Ah Ak Aq Ax Aw Ap Bj Al Az):FnOk P w K mg base Dv 1 f fd ["self", "name"] (Iq Ah "name"):=by
 have sc:=Ju;bv_omega
 ·obtain⟨_,_,_,rfl,_⟩:=h
  rfl
 obtain⟨p,dx,n,rfl,hp,q⟩:=h;refine⟨_,(Aj (Dj (pv 0) (pv 1) rfl)),?_⟩;exact (vE rfl (vE rfl ⟨p,_,dx,_,rfl,hp,L.cl_ThingIs,L.na_ThingIs_name,(by show 0<1000; decide),q⟩))
theorem Nd:Bb ["self", "cents"] ["self", "cents"] (An Fk):=by injections
theorem Mp {f:Addr} {fd:zCt} (F:Fun K "__init__" "Over.__init__" Fk f fd) (L:Kl K mg Ad Ai Ah Ak Aq Ax Aw Ap Bj Al Az):FnOk P w K mg base Dv 1 f fd ["self", "cents"] (Iq Aq "cents"):=by
 have sc:=Nd;bv_omega
 ·obtain⟨_,_,_,rfl,_⟩:=h
  rfl
 obtain⟨p,dx,n,rfl,hp,q⟩:=h;refine⟨_,(Aj (Dj (pv 0) (pv 1) rfl)),?_⟩;exact (vE rfl (vE rfl ⟨p,_,dx,_,rfl,hp,L.cl_Over,L.na_Over_cents,(by show 0<1000; decide),q⟩))
theorem Oq:Bb ["self", "part"] ["self", "part"] (An Gh):=by injections
theorem Ot {f:Addr} {fd:zCt} (F:Fun K "__init__" "Not.__init__" Gh f fd) (L:Kl K mg Ad Ai Ah Ak Aq Ax Aw Ap Bj Al Az):FnOk P w K mg base Dv 1 f fd ["self", "part"] (Iq Ax "part"):=by
 have sc:=Oq;bv_omega
 ·obtain⟨_,_,_,rfl,_⟩:=h
  rfl
 obtain⟨p,dx,n,rfl,hp,q⟩:=h;refine⟨_,(Aj (Dj (pv 0) (pv 1) rfl)),?_⟩;exact (vE rfl (vE rfl ⟨p,_,dx,_,rfl,hp,L.cl_Not,L.na_Not_part,(by show 0<1000; decide),q⟩))
theorem Kk:Bb ["self", "first", "last"] ["self", "first", "last"] (An Ek):=by injections
theorem Kz {f:Addr} {fd:zCt} (F:Fun K "__init__" "DaysIn.__init__" Ek f fd) (L:Kl K mg Ad Ai Ah Ak Aq Ax Aw Ap Bj Al Az):FnOk P w K mg base Dv 1 f fd ["self", "first", "last"] (P9 Ak):=by
 have sc:=Kk;bv_omega
 ·obtain⟨_,_,_,_,rfl,_⟩:=h
  rfl
 obtain⟨p,dx,a,b,rfl,hp,q⟩:=h;refine⟨_,(Ae (Dj (pv 0) (pv 1) rfl)
   (Aj (Dj (pv 0) (pv 2) rfl))),?_⟩
 refine (vE rfl (vE rfl ⟨p,_,dx,_,rfl,hp,L.cl_DaysIn,L.na_DaysIn_first,(by show 0<1000; decide),?_⟩));exact (vE rfl (vE rfl ⟨p,_,dx,_,rfl,Ab,L.cl_DaysIn,L.na_DaysIn_last,(by show 1<1000; decide),q _ (fun b n=>by rw[Ar n,Ar n]) Ab⟩))
theorem Oh:Bb ["self", "several"] ["self", "several"] (An Gc):=by injections
theorem Om {f:Addr} {fd:zCt} (F:Fun K "__init__" "All.__init__" Gc f fd) (T:Txt K mg) (L:Kl K mg Ad Ai Ah Ak Aq Ax Aw Ap Bj Al Az):FnOk P w K mg base Dv 1 f fd ["self", "several"] (Si Aw):=by
 have sc:=Oh;bv_omega
 ·obtain⟨_,_,_,_,rfl,_⟩:=h
  rfl
 obtain⟨p,dx,a,xs,rfl,hp,ha,q⟩:=h;refine⟨_,(Aj (Dj (pv 0) (Ds Dc rfl T.n_list (show zCs _=some (.type "list") from rfl) (Aa (pv 1) Af)) rfl)),?_⟩;refine (vE rfl ⟨a,_,rfl,.inl (SqL.of ha),fun l hl=>?_⟩);have hpl:p≠l:=At hp hl;exact (vE rfl ⟨p,_,dx,_,rfl,(by rw[Ar hpl]; exact hp),L.cl_All,L.na_All_several,(by show 0<1000; decide),q l _ hl (fun b n1 n2=>by rw[Ar n1,Ar n2]) Ab (by rw[Ar hpl.symm,Ab])⟩)
theorem Ni:Bb ["self", "several"] ["self", "several"] (An Fl):=by injections
theorem Na {f:Addr} {fd:zCt} (F:Fun K "__init__" "Some.__init__" Fl f fd) (T:Txt K mg) (L:Kl K mg Ad Ai Ah Ak Aq Ax Aw Ap Bj Al Az):FnOk P w K mg base Dv 1 f fd ["self", "several"] (Si Ap):=by
 have sc:=Ni;bv_omega
 ·obtain⟨_,_,_,_,rfl,_⟩:=h
  rfl
 obtain⟨p,dx,a,xs,rfl,hp,ha,q⟩:=h;refine⟨_,(Aj (Dj (pv 0) (Ds Dc rfl T.n_list (show zCs _=some (.type "list") from rfl) (Aa (pv 1) Af)) rfl)),?_⟩;refine (vE rfl ⟨a,_,rfl,.inl (SqL.of ha),fun l hl=>?_⟩);have hpl:p≠l:=At hp hl;exact (vE rfl ⟨p,_,dx,_,rfl,(by rw[Ar hpl]; exact hp),L.cl_Some,L.na_Some_several,(by show 0<1000; decide),q l _ hl (fun b n1 n2=>by rw[Ar n1,Ar n2]) Ab (by rw[Ar hpl.symm,Ab])⟩)
def Dt (κ:A8) (m:Nat) (C:Addr):Sp:=fun vs H Q _=>∃ p t,vs=[.ref p]/\CdAt κ H (.ref p) t/\κ.of t=C/\Mb t<m/\(Bf t).length<=60/\∀ l H',Same H H'->H l=none->MkAt H' l (Bf t)->Q (.ref l) H'
def Z3 (κ:A8) (m:Nat):Sp:=fun vs H Q _=>∃ a us ts,vs=[.ref a]/\H a=some (.lst us)/\CdsAt κ H us ts/\hgts ts<m/\(marksTs ts).length<=60/\∀ l H',Same H H'->H l=none->MkAt H' l (marksTs ts)->Q (.ref l) H'
theorem Ew {κ:A8} {C:Addr} {vs:List V} {H:Hp} {Q:VK} {E:XK} (h:Dt κ 0 C vs H Q E):False:=by
 obtain⟨_,_,_,_,_,h,_⟩:=h;exact absurd h (zBc _)
theorem Ki:Bb ["self"] ["self"] (An Ej):=by injections
theorem Kr {f:Addr} {fd:zCt} (F:Fun K "marks" "Condition.marks" Ej f fd) (L:Kl K mg Ad Ai Ah Ak Aq Ax Aw Ap Bj Al Az) {m:Nat}:FnOk P w K mg base Dv 1 f fd ["self"] (Dt (A8.mk Ad Ai Ah Ak Aq Ax Aw Ap) m Ad):=by
 have sc:=Ki;bv_omega
 ·obtain⟨_,_,rfl,_⟩:=h
  rfl
 obtain⟨p,t,rfl,hp,hc,hg,hm,q⟩:=h;obtain rfl:=IA (κ:=A8.mk Ad Ai Ah Ak Aq Ax Aw Ap) (BQ L) hc;exact⟨_,(Aj (Au (Bq Af))),zAC _,fun l hl=>q l _ (Ag hl _) hl (by unfold Bf; exact⟨[],Ab,trivial⟩)⟩
theorem Ms:Bb ["self"] ["self"] (An Fj):=by injections
theorem Nf {f:Addr} {fd:zCt} (F:Fun K "marks" "CauseIs.marks" Fj f fd) (L:Kl K mg Ad Ai Ah Ak Aq Ax Aw Ap Bj Al Az) {m:Nat}:FnOk P w K mg base Dv 1 f fd ["self"] (Dt (A8.mk Ad Ai Ah Ak Aq Ax Aw Ap) m Ai):=by
 have sc:=Ms;bv_omega
 ·obtain⟨_,_,rfl,_⟩:=h
  rfl
 obtain⟨p,t,rfl,hp,hc,hg,hm,q⟩:=h;obtain⟨nm,rfl⟩:=II (κ:=A8.mk Ad Ai Ah Ak Aq Ax Aw Ap) (BQ L) hc;unfold CdAt at hp;obtain⟨_,dx,e,hp⟩:=hp;cases e;have one:1<=sizeLine:=by rw[zCr]; decide
 have two:2<=sizeLine:=by rw[zCr]; decide
 refine⟨_,(Aj (Au (Bq (Aa (Cj (Aa Bi (Aa (Er (pv 0) rfl) Af))) Af)))),?_⟩;refine⟨_,rfl,p,_,dx,_,_,rfl,hp,L.cl_CauseIs,L.na_CauseIs_name,Q4 nm,two,fun t ht=>⟨one,fun l hl=>?_⟩⟩;exact q l _ ((Ag ht _).trans (Ag hl _)) ((Ag ht _).free hl) (by unfold Bf; exact⟨_,Ab,⟨t,rfl,Ag hl _ _ _ Ab⟩,trivial⟩)
theorem Mg:Bb ["self"] ["self"] (An Ff):=by injections
theorem Ng {f:Addr} {fd:zCt} (F:Fun K "marks" "ThingIs.marks" Ff f fd) (L:Kl K mg Ad Ai Ah Ak Aq Ax Aw Ap Bj Al Az) {m:Nat}:FnOk P w K mg base Dv 1 f fd ["self"] (Dt (A8.mk Ad Ai Ah Ak Aq Ax Aw Ap) m Ah):=by
 have sc:=Mg;bv_omega
 ·obtain⟨_,_,rfl,_⟩:=h
  rfl
 obtain⟨p,t,rfl,hp,hc,hg,hm,q⟩:=h;obtain⟨nm,rfl⟩:=IF (κ:=A8.mk Ad Ai Ah Ak Aq Ax Aw Ap) (BQ L) hc;unfold CdAt at hp;obtain⟨_,dx,e,hp⟩:=hp;cases e;have one:1<=sizeLine:=by rw[zCr]; decide
 have two:2<=sizeLine:=by rw[zCr]; decide
 refine⟨_,(Aj (Au (Bq (Aa (Cj (Aa Bi (Aa (Er (pv 0) rfl) Af))) Af)))),?_⟩;refine⟨_,rfl,p,_,dx,_,_,rfl,hp,L.cl_ThingIs,L.na_ThingIs_name,P5 nm,two,fun t ht=>⟨one,fun l hl=>?_⟩⟩;exact q l _ ((Ag ht _).trans (Ag hl _)) ((Ag ht _).free hl) (by unfold Bf; exact⟨_,Ab,⟨t,rfl,Ag hl _ _ _ Ab⟩,trivial⟩)
theorem Ro:Bb ["self"] ["self"] (An Il):=by injections
theorem Rl {f:Addr} {fd:zCt} (F:Fun K "marks" "Over.marks" Il f fd) (L:Kl K mg Ad Ai Ah Ak Aq Ax Aw Ap Bj Al Az) {m:Nat}:FnOk P w K mg base Dv 1 f fd ["self"] (Dt (A8.mk Ad Ai Ah Ak Aq Ax Aw Ap) m Aq):=by
 have sc:=Ro;bv_omega
 ·obtain⟨_,_,rfl,_⟩:=h
  rfl
 obtain⟨p,t,rfl,hp,hc,hg,hm,q⟩:=h;obtain⟨c,rfl⟩:=IM (κ:=A8.mk Ad Ai Ah Ak Aq Ax Aw Ap) (BQ L) hc;unfold CdAt at hp;obtain⟨_,dx,e,hp⟩:=hp;cases e;have one:1<=sizeLine:=by rw[zCr]; decide
 have two:2<=sizeLine:=by rw[zCr]; decide
 refine⟨_,(Aj (Au (Bq (Aa (Cj (Aa Bi (Aa (Er (pv 0) rfl) Af))) Af)))),?_⟩;refine⟨_,rfl,p,_,dx,_,_,rfl,hp,L.cl_Over,L.na_Over_cents,O6 c,two,fun t ht=>⟨one,fun l hl=>?_⟩⟩;exact q l _ ((Ag ht _).trans (Ag hl _)) ((Ag ht _).free hl) (by unfold Bf; exact⟨_,Ab,⟨t,rfl,Ag hl _ _ _ Ab⟩,trivial⟩)
theorem Ou:Bb ["self"] ["self"] (An Gg):=by injections
theorem On {f:Addr} {fd:zCt} (F:Fun K "marks" "DaysIn.marks" Gg f fd) (L:Kl K mg Ad Ai Ah Ak Aq Ax Aw Ap Bj Al Az) {m:Nat}:FnOk P w K mg base Dv 1 f fd ["self"] (Dt (A8.mk Ad Ai Ah Ak Aq Ax Aw Ap) m Ak):=by
 have sc:=Ou;bv_omega
 ·obtain⟨_,_,rfl,_⟩:=h
  rfl
 obtain⟨p,t,rfl,hp,hc,hg,hm,q⟩:=h;obtain⟨a,b,rfl⟩:=IK (κ:=A8.mk Ad Ai Ah Ak Aq Ax Aw Ap) (BQ L) hc;unfold CdAt at hp;obtain⟨_,dx,e,hp⟩:=hp;cases e;have two:2<=sizeLine:=by rw[zCr]; decide
 refine⟨_,(Aj (Au (Bq (Aa (Cj (Aa Bi (Aa (Er (pv 0) rfl) Af))) (Aa (Cj (Aa Bi (Aa (Ao Ca (Er (pv 0) rfl) Ac) Af))) Af))))),?_⟩;refine⟨_,rfl,p,_,dx,_,_,rfl,hp,L.cl_DaysIn,L.na_DaysIn_first,O8 a b,two,fun t ht=>?_⟩;have s1:=Ag ht (.tup [.str "day",.int a]);refine⟨_,rfl,p,_,dx,_,_,rfl,s1 _ _ hp,L.cl_DaysIn,L.na_DaysIn_last,AK a b,_,_,rfl,rfl,two,fun t2 ht2=>?_⟩;have s2:=Ag ht2 (.tup [.str "day",.int (b+1)]);refine⟨two,fun l hl=>?_⟩;have s3:=Ag hl (.lst [.ref t,.ref t2]);exact q l _ (s1.trans (s2.trans s3)) (s1.free (s2.free hl)) (by unfold Bf; exact⟨_,Ab,⟨t,rfl,s3 _ _ (s2 _ _ Ab)⟩,⟨t2,rfl,s3 _ _ Ab⟩,trivial⟩)
theorem Tj:Bb ["self"] ["self"] (An Jj):=by injections
theorem Uf {f:Addr} {fd:zCt} (F:Fun K "marks" "Not.marks" Jj f fd) (L:Kl K mg Ad Ai Ah Ak Aq Ax Aw Ap Bj Al Az) {m:Nat} (Mmarks:R8 P w K mg base (2*m) (A8.Fam (A8.mk Ad Ai Ah Ak Aq Ax Aw Ap)) "marks" ["self"] (Dt (A8.mk Ad Ai Ah Ak Aq Ax Aw Ap) m)):FnOk P w K mg base Dv (2*m+1+1) f fd ["self"] (Dt (A8.mk Ad Ai Ah Ak Aq Ax Aw Ap) (m+1) Ax):=by
 have sc:=Tj;bv_omega
 ·obtain⟨_,_,rfl,_⟩:=h
  rfl
 obtain⟨p,t,rfl,hp,hc,hg,hm,q⟩:=h;obtain⟨u,rfl⟩:=HZ (κ:=A8.mk Ad Ai Ah Ak Aq Ax Aw Ap) (BQ L) hc;unfold Mb at hg;unfold Bf at hm q;unfold CdAt at hp;obtain⟨_,dx,v,e,hp,hu⟩:=hp;cases e;obtain⟨pu,du,fu,rfl,eu,_,_,_,n1⟩:=hu.obj;refine⟨_,(Aj (Au (Nb Mmarks (hr.mono (by lia)) (Er (pv 0) rfl)))),?_⟩;exact⟨_,rfl,p,_,dx,_,_,rfl,hp,L.cl_Not,L.na_Not_part,Za _ _,pu,_,du,fu,rfl,eu,A8.fam _ u,n1,pu,u,rfl,hu,rfl,by lia,hm,fun l H' s' nl mk=>q l H' s' nl mk⟩
theorem Rx:Bb ["several", "told", "part"] ["several"] (An Ik):=by injections
theorem Se {f:Addr} {fd:zCt} (F:Fun K "marks_with" "marks_with" Ik f fd) {m:Nat} (Mmarks:R8 P w K mg base (2*m) (A8.Fam (A8.mk Ad Ai Ah Ak Aq Ax Aw Ap)) "marks" ["self"] (Dt (A8.mk Ad Ai Ah Ak Aq Ax Aw Ap) m)):FnOk P w K mg base Dv (2*m+1) f fd ["several"] (Z3 (A8.mk Ad Ai Ah Ak Aq Ax Aw Ap) m):=by
 have sc:=Rx;bv_omega
 ·obtain⟨_,_,_,rfl,_⟩:=h
  rfl
 obtain⟨a,us,ts,rfl,ha,cds,hg,hm,q⟩:=h;have hlen:=cds.len;refine⟨_,(Ae (Ba (i:=1) sc.nd rfl (Or.inl rfl) (Bq Af))
   (Ae (Dd PassesOwn.never rfl (Bn (pv 0)) (Bh (i:=2) sc.nd rfl (Or.inl rfl))
    (Aj (Fu (Oe PySem.F.plainAttrs_list PySem.F.slot_list_extend PySem.F.type_list_extend Mz (pv 1) (Aa (Nb Mmarks (hr.mono (by lia)) (pv 2)) Af)))))
   (Aj (Au (pv 1))))),?_⟩
 refine⟨zAC _,fun pt npt=>?_⟩;have e0:marksTs []=[]:=by unfold marksTs; rfl
 refine⟨_,rfl,a,rfl,⟨_,SqL.of (Ag npt _ _ _ ha)⟩,?_⟩;refine Cm (K:=K) (a:=a) (xs:=us) (fun i σ H2=>(∃ o,σ=[some (.ref a),some (.ref pt),o])/\Same H H2/\MkAt H2 pt (marksTs (ts.take i))) ⟨⟨none,rfl⟩,Ag npt _,[],Ab,by rw[zAY,e0]; trivial⟩ (fun i σ H2 _ ⟨_,e,_⟩=>SqL.of (e _ _ ha)) ?_ ?_
 ·rintro i v σ H2 hi ⟨⟨o,rfl⟩,s2,xs,h2,mk⟩
  obtain⟨u,eu,hu⟩:=cds.get hi;have hu2:=hu.same s2;obtain⟨pu,du,fu,rfl,ob,_,_,_,n1⟩:=hu2.obj;have part:=Im (zAu eu);have tk:=Hn ts i;refine⟨_,rfl,.inl ⟨rfl,_,SqL.of h2⟩,_,rfl,pu,_,du,fu,rfl,ob,A8.fam _ u,n1,pu,u,rfl,hu2,rfl,Ur hg i eu,by lia,fun l H3 s3 nl ⟨ys,hl,mk2⟩=>?_⟩;have l1:=mk.len;have l2:=mk2.len;refine⟨pt,l,xs,ys,rfl,rfl,s3 _ _ h2,hl,by rw[zCr]; lia,⟨_,rfl⟩,Bv npt (s2.trans s3),xs++ys,Ab,?_⟩;have kp:∀ t zs,H3 t=some (.tup zs)->upd H3 pt (.lst (xs++ys)) t=some (.tup zs):=fun t zs e=>by
   rw[Ar (Wp e (s3 _ _ h2) (by intro z; cases z))]; exact e
  rw[Hb eu,Uh];exact (mk.mono fun t zs e=>kp t zs (s3 _ _ e)).app (mk2.mono kp)
 ·rintro σ H2 ⟨⟨o,rfl⟩,s2,mk⟩
  rw[hlen,zAz] at mk;exact⟨_,rfl,q pt H2 s2 npt mk⟩
theorem Ud:Bb ["self"] ["self"] (An Ji):=by injections
theorem Tr {f:Addr} {fd:zCt} (F:Fun K "marks" "All.marks" Ji f fd) (L:Kl K mg Ad Ai Ah Ak Aq Ax Aw Ap Bj Al Az) {m:Nat} (Cmarks_with:Ct P w K mg base (2*m+1) "marks_with" ["several"] (Z3 (A8.mk Ad Ai Ah Ak Aq Ax Aw Ap) m)):FnOk P w K mg base Dv (2*m+1+1) f fd ["self"] (Dt (A8.mk Ad Ai Ah Ak Aq Ax Aw Ap) (m+1) Aw):=by
 have sc:=Ud;bv_omega
 ·obtain⟨_,_,rfl,_⟩:=h
  rfl
 obtain⟨p,t,rfl,hp,hc,hg,hm,q⟩:=h;obtain⟨ts,rfl⟩:=IB (κ:=A8.mk Ad Ai Ah Ak Aq Ax Aw Ap) (BQ L) hc;unfold Mb at hg;unfold Bf at hm q;unfold CdAt at hp;obtain⟨_,dx,a,us,e,hp,ha,hv⟩:=hp;cases e;refine⟨_,(Aj (Au (Am Cmarks_with (hr.mono (by lia)) rfl (Aa (Er (pv 0) rfl) Af)))),?_⟩;exact⟨_,rfl,p,_,dx,_,_,rfl,hp,L.cl_All,L.na_All_several,Za _ _,a,us,ts,rfl,ha,hv,by lia,hm,fun l H' s' nl mk=>q l H' s' nl mk⟩
theorem Rp:Bb ["self"] ["self"] (An Ig):=by injections
theorem Ru {f:Addr} {fd:zCt} (F:Fun K "marks" "Some.marks" Ig f fd) (L:Kl K mg Ad Ai Ah Ak Aq Ax Aw Ap Bj Al Az) {m:Nat} (Cmarks_with:Ct P w K mg base (2*m+1) "marks_with" ["several"] (Z3 (A8.mk Ad Ai Ah Ak Aq Ax Aw Ap) m)):FnOk P w K mg base Dv (2*m+1+1) f fd ["self"] (Dt (A8.mk Ad Ai Ah Ak Aq Ax Aw Ap) (m+1) Ap):=by
 have sc:=Rp;bv_omega
 ·obtain⟨_,_,rfl,_⟩:=h
  rfl
 obtain⟨p,t,rfl,hp,hc,hg,hm,q⟩:=h;obtain⟨ts,rfl⟩:=IL (κ:=A8.mk Ad Ai Ah Ak Aq Ax Aw Ap) (BQ L) hc;unfold Mb at hg;unfold Bf at hm q;unfold CdAt at hp;obtain⟨_,dx,a,us,e,hp,ha,hv⟩:=hp;cases e;refine⟨_,(Aj (Au (Am Cmarks_with (hr.mono (by lia)) rfl (Aa (Er (pv 0) rfl) Af)))),?_⟩;exact⟨_,rfl,p,_,dx,_,_,rfl,hp,L.cl_Some,L.na_Some_several,Za _ _,a,us,ts,rfl,ha,hv,by lia,hm,fun l H' s' nl mk=>q l H' s' nl mk⟩
end
def Bp (so:Str) (ms:List Gy):List V:=(ms.filter fun m=>decide (m.1=so)).map (·.2)
theorem Eg (so:Str) (ms:List Gy):(Bp so ms).length<=ms.length:=by
 unfold Bp;rw[zAa];exact zAZ _ _
theorem Jn (so:Str) (ms ns:List Gy):Bp so (ms++ns)=Bp so ms++Bp so ns:=by
 unfold Bp;rw[zBC,zAn]
theorem Md (so:Str) (m:Gy):Bp so [m]=if m.1=so then [m.2] else []:=by
 unfold Bp;by_cases c:m.1=so
 ·simp [c]
 ·simp [c]
def Pf:Sp:=fun vs H Q _=>∃ a so ms,vs=[.ref a,.str so]/\MkAt H a ms/\ms.length<=60 /\
 ((∃ ns:List Int,Bp so ms=ns.map V.int/\∀ l zs H',Same H H'->H l=none->H' l=some (.lst (List.map V.int zs))->zs.Pairwise (· < ·)->(∀ y,y∈zs↔y∈ns)->Q (.ref l) H') \/
   (∃ ns:List Str,Bp so ms=ns.map V.str/\∀ l zs H',Same H H'->H l=none->H' l=some (.lst (List.map V.str zs))->zs.Nodup->PyProof.Rows.sortedS zs=true->(∀ y,y∈zs↔y∈ns)->Q (.ref l) H'))
section
variable {P:Program} {w:World} {K:zAb} {mg:Str->Option Value} {base:Heap}
theorem J2:Bb ["marks", "sort"] ["marks", "sort"] (An Qj):=by injections
theorem G6 {f:Addr} {fd:zCt} (F:Fun K "marked" "marked" Qj f fd) (T:Txt K mg):FnOk P w K mg base Dv 1 f fd ["marks", "sort"] Pf:=by
 have sc:=J2;bv_omega
 ·obtain⟨_,_,_,rfl,_⟩:=h
  rfl
 obtain⟨a,so,ms,rfl,⟨xs,ha,mk⟩,l6,alt⟩:=h;refine⟨_,(Aj (Au (Wg (Da (NC:=["kind", "what", "sort"]) (own:=["kind", "what"]) (cs:=["sort"]) (ix:=[1]) rfl (CompScope.of rfl) rfl ⟨⟨rfl,.inl rfl,rfl⟩,trivial⟩ (Bn (pv 0)) (fun _ _ _=>(Zu (K:=K) (n:=2) rfl rfl (Et (Bh (i:=0) (show (["kind", "what", "sort"]:List Str).Nodup from by ac_nf) rfl (Or.inl rfl)) (Et (Bh (i:=1) (show (["kind", "what", "sort"]:List Str).Nodup from by ac_nf) rfl (Or.inl rfl)) Ov)))) (fun _ _ _=>(Go (Ay Db (pv 0) (pv 2) (Bd _)))) (fun _ _ _=>(pv 1))) rfl rfl T.n_sorted rfl T.n_set))),?_⟩;have lx:=mk.len;refine (vE rfl ⟨a,rfl,⟨_,SqL.of ha⟩,fun r nr=>?_⟩);refine Px (K:=K) (a:=a) (xs:=xs) (fun i ys H2=>ys=Bp so (ms.take i)/\H2 r=some (.lst ys)/\Same H H2) ⟨by rw[zAY]; rfl,Ab,Ag nr _⟩
  (fun i ys H2 hi ⟨e,h1,s2⟩=>⟨h1,by rw[e]; exact zAE (Eg _ _) (by rw[zAB]; lia),SqL.of (s2 _ _ ha)⟩) (by rw[zCr]; lia) (fun i x ys H2 hi ⟨e,h1,s2⟩=>?_) (fun ys H2 ⟨e,h1,s2⟩=>?_)
 ·have il:i<ms.length:=by have:=(zAp.mp hi).1; lia
  have em:ms[i]?=some ms[i]:=zAf il;generalize ms[i]=m at em;obtain⟨t,t1,t2⟩:=mk.get em;rw[hi] at t1;cases t1;refine⟨t,_,_,rfl,SqT.of (s2 _ _ t2),?_⟩;refine (vE rfl (vE rfl ⟨rfl,vE rfl ?_⟩));by_cases c:m.1=so
  ·refine dT (congrArg V.str c) (vE rfl ⟨h1,rfl,?_,Ab,Bv nr s2⟩)
   rw[Cd em,Jn,Md,if_pos c,e]
  ·refine dF (fun z=>c (V.str.inj z)) ⟨rfl,?_,h1,s2⟩
   rw[Cd em,Jn,Md,if_neg c,zAT,e]
 rw[lx,zAz] at e;have wl:=Eg so ms;rcases alt with ⟨ns,ew,q⟩ | ⟨ns,ew,q⟩
 ·have ln:ns.length<=ms.length:=by rw[ew,zAa] at wl; exact wl
  exact .inl ⟨r,ns,rfl,SqL.of (by rw[<- ew,<- e]; exact h1),by lia,fun l zs nl pw mem=>q l zs _ (s2.trans (Ag nl _)) (s2.free nl) Ab pw mem⟩
 ·have ln:ns.length<=ms.length:=by rw[ew,zAa] at wl; exact wl
  exact .inr ⟨r,ns,rfl,SqL.of (by rw[<- ew,<- e]; exact h1),by lia,fun l zs nl nd so mem=>q l zs _ (s2.trans (Ag nl _)) (s2.free nl) Ab nd so mem⟩
end
structure Cw where
 p:Addr
 nm:Str
 t:Dx
 wt:Bool
def EI (x:Cw):V:=.ref x.p
def CwAt (κ:A8) (C:Addr) (H:Hp) (x:Cw):Prop:=∃ dx fs cv cl,H x.p=some (.ins C dx fs)/\fs.lookup ("name" : Str)=some (.str x.nm)/\fs.lookup ("condition" : Str)=some cv/\fs.lookup ("clauses" : Str)=some (.ref cl)/\fs.lookup ("waits" : Str)=some (.bl x.wt)/\noM5 fs/\CdAt κ H cv x.t/\Mb x.t<4/\H cl=some (.lst [])
theorem CwAt.same {κ:A8} {C:Addr} {H H':Hp} {x:Cw} (h:CwAt κ C H x) (s:Same H H'):CwAt κ C H' x:=by
 obtain⟨dx,fs,cv,cl,e,a1,a2,a3,a4,a5,a6,a7,a8⟩:=h;exact⟨dx,fs,cv,cl,s _ _ e,a1,a2,a3,a4,a5,CdAt.same s _ a6,a7,s _ _ a8⟩
def CC (cs:List Cw):List Cw:=cs.filter (fun x => !x.wt)++cs.filter (fun x=>x.wt)
def BwAt (κ:A8) (C CB:Addr) (H:Hp) (b:Addr) (cs:List Cw):Prop:=∃ dx fs cl ak,H b=some (.ins CB dx fs)/\fs.lookup ("covers" : Str)=some (.ref cl)/\fs.lookup ("asking" : Str)=some (.ref ak)/\H cl=some (.lst (cs.map EI))/\H ak=some (.lst ((CC cs).map EI))/\∀ x∈cs,CwAt κ C H x
theorem BwAt.same {κ:A8} {C CB:Addr} {H H':Hp} {b:Addr} {cs:List Cw} (h:BwAt κ C CB H b cs) (s:Same H H'):BwAt κ C CB H' b cs:=by
 obtain⟨dx,fs,cl,ak,e,a1,a2,a3,a4,a5⟩:=h;exact⟨dx,fs,cl,ak,s _ _ e,a1,a2,s _ _ a3,s _ _ a4,fun x hx=>(a5 x hx).same s⟩
def mB (cs:List Cw):List Gy:=(cs.map fun x=>Bf x.t).flatten
theorem A7 (cs:List Cw) (x:Cw):mB (cs++[x])=mB cs++Bf x.t:=by
 unfold mB;rw[zAn,zCa];simp
theorem EV {cs:List Cw} {i:Nat}:(mB (cs.take i)).length<=(mB cs).length:=by
 have:mB cs=mB (cs.take i)++mB (cs.drop i):=by
  unfold mB;rw[<- zCa,<- zAn,List.take_append_drop]
 rw[this,zAe]
 lia
theorem Z4 {cs:List Cw} {i:Nat} {x:Cw} (h:cs[i]?=some x):(mB (cs.take i)).length+(Bf x.t).length<=(mB cs).length:=by
 have:=EV (cs:=cs) (i:=i+1);rw[Cd h,A7,zAe] at this;exact this
def AB:Gy->Prop:=fun m=>((m.1 = "cause" \/ m.1 = "thing")/\∃ n,m.2 = .str n)\/((m.1 = "day" \/ m.1 = "cents")/\∃ i,m.2 = .int i)
mutual
theorem A5:∀ (t:Dx),∀ m∈Bf t,AB m
 | .at c,m,h=>by
  unfold Bf at h;cases c with
  | alw=>exact nomatch h
  | cau n=>rw[zAk.mp h]; exact .inl ⟨.inl rfl,n,rfl⟩
  | thi n=>rw[zAk.mp h]; exact .inl ⟨.inr rfl,n,rfl⟩
  | day a b=>
   rcases zAq.mp h with e | e
   ·rw[e]; exact .inr ⟨.inl rfl,a,rfl⟩
   ·rw[zAk.mp e]; exact .inr ⟨.inl rfl,b+1,rfl⟩
  | ovr k=>rw[zAk.mp h]; exact .inr ⟨.inr rfl,k,rfl⟩
 | .no t,m,h=>by unfold Bf at h; exact A5 t m h
 | .al ts,m,h=>by unfold Bf at h; exact isW_Ts ts m h
 | .so ts,m,h=>by unfold Bf at h; exact isW_Ts ts m h
theorem isW_Ts:∀ (ts:List Dx),∀ m∈marksTs ts,AB m
 | [],m,h=>by unfold marksTs at h; exact nomatch h
 | t::ts,m,h=>by
  unfold marksTs at h;rcases zAW.mp h with e | e
  ·exact A5 t m e
  ·exact isW_Ts ts m e
end
theorem BH (cs:List Cw):∀ m∈mB cs,AB m:=fun m h=>by
 unfold mB at h;obtain⟨l,hl,hm⟩:=List.mem_flatten.mp h;obtain⟨x,_,rfl⟩:=zAA.mp hl;exact A5 x.t m hm
theorem Ps:∀ {l:List V},(∀ v∈l,∃ n,v = .str n)->∃ ns:List Str,l=ns.map V.str
 | [],_=>⟨[],rfl⟩
 | v::l,h=>by
  obtain⟨n,rfl⟩:=h v zAo;obtain⟨ns,rfl⟩:=Ps fun v hv=>h v (zAm _ hv);exact⟨n::ns,rfl⟩
theorem Ld:∀ {l:List V},(∀ v∈l,∃ n,v = .int n)->∃ ns:List Int,l=ns.map V.int
 | [],_=>⟨[],rfl⟩
 | v::l,h=>by
  obtain⟨n,rfl⟩:=h v zAo;obtain⟨ns,rfl⟩:=Ld fun v hv=>h v (zAm _ hv);exact⟨n::ns,rfl⟩
theorem Hl {so:Str} {ms:List Gy} {v:V} (h:v∈Bp so ms):(so,v)∈ms:=by
 unfold Bp at h;obtain⟨m,hm,rfl⟩:=zAA.mp h;obtain⟨h1,h2⟩:=zCb.mp hm;rw[<- of_decide_eq_true h2];exact h1
theorem O7 {cs:List Cw} {so:Str} (h:so = "cause" \/ so = "thing"):∃ ns:List Str,Bp so (mB cs)=ns.map V.str:=Ps fun v hv=>by
 rcases BH cs _ (Hl hv) with ⟨_,e⟩ | ⟨e,_⟩
 ·exact e
 ·exfalso
  have e:so = "day" \/ so = "cents" := e;rcases h with h | h <;> rcases e with e | e <;> exact absurd (h.symm.trans e) (by ac_nf)
theorem U6 {cs:List Cw} {so:Str} (h:so = "day" \/ so = "cents"):∃ ns:List Int,Bp so (mB cs)=ns.map V.int:=Ld fun v hv=>by
 rcases BH cs _ (Hl hv) with ⟨e,_⟩ | ⟨_,e⟩
 ·exfalso
  have e:so = "cause" \/ so = "thing" := e;rcases h with h | h <;> rcases e with e | e <;> exact absurd (h.symm.trans e) (by ac_nf)
 ·exact e
def Fv (κ:A8) (C CB:Addr):Sp:=fun vs H Q _=>∃ b cs,vs=[.ref b]/\BwAt κ C CB H b cs/\(mB cs).length<=60 /\
 ∀ r la lb lc ld A B D E H',Same H H'->H' r=some (.tup [.ref la,.ref lb,.ref lc,.ref ld])->H' la=some (.lst (List.map V.str A))->H' lb=some (.lst (List.map V.str B))->H' lc=some (.lst (List.map V.int D))->H' ld=some (.lst (List.map V.int E)) ->
  A.Nodup->PyProof.Rows.sortedS A=true->(∀ y,y∈A↔V.str y∈Bp "cause" (mB cs))->B.Nodup->PyProof.Rows.sortedS B=true->(∀ y,y∈B↔V.str y∈Bp "thing" (mB cs))->D.Pairwise (· < ·)->(∀ y,y∈D↔(V.int y∈Bp "day" (mB cs)/\1<=y/\y<=1000000))->E.Pairwise (· < ·)->(∀ y,y∈E↔V.int y∈Bp "cents" (mB cs))->H la=none->Q (.ref r) H'
theorem Qb {y:Str} {ns:List Str}:V.str y∈ns.map V.str↔y∈ns:=by
 rw[zAA];exact⟨fun ⟨z,hz,e⟩=>V.str.inj e▸hz,fun h=>⟨y,h,rfl⟩⟩
theorem Ly {y:Int} {ns:List Int}:V.int y∈ns.map V.int↔y∈ns:=by
 rw[zAA];exact⟨fun ⟨z,hz,e⟩=>V.int.inj e▸hz,fun h=>⟨y,h,rfl⟩⟩
def M0 (y:Int):Bool:=decide (1<=y)&&decide (y<=1000000)
section
variable {P:Program} {w:World} {K:zAb} {mg:Str->Option Value} {base:Heap} {Ad Ai Ah Ak Aq Ax Aw Ap Bj Al Az:Addr}
theorem Vy:Bb ["book", "marks", "cover", "days"] ["book"] (An Ks):=by injections
theorem Vz {f:Addr} {fd:zCt} (F:Fun K "marks_of" "marks_of" Ks f fd) (T:Txt K mg) (L:Kl K mg Ad Ai Ah Ak Aq Ax Aw Ap Bj Al Az) (Cmarked:Ct P w K mg base 1 "marked" ["marks", "sort"] Pf) (Mmarks:R8 P w K mg base 8 (A8.Fam (A8.mk Ad Ai Ah Ak Aq Ax Aw Ap)) "marks" ["self"] (Dt (A8.mk Ad Ai Ah Ak Aq Ax Aw Ap) 4)) :
  FnOk P w K mg base Dv 9 f fd ["book"] (Fv (A8.mk Ad Ai Ah Ak Aq Ax Aw Ap) Al Az):=by
 have sc:=Vy;bv_omega
 ·obtain⟨_,_,rfl,_⟩:=h
  rfl
 obtain⟨b,cs,rfl,⟨dx,fs,cl,ak,hb,f1,f2,hcl,hak,all⟩,l6,q⟩:=h;refine⟨_,(Ae (Ba (i:=1) sc.nd rfl (Or.inl rfl) (Bq Af))
   (Ae (Dd PassesOwn.never rfl (Bn (Er (pv 0) rfl)) (Bh (i:=2) sc.nd rfl (Or.inl rfl))
    (Aj (Fu (Oe PySem.F.plainAttrs_list PySem.F.slot_list_extend PySem.F.type_list_extend Mz (pv 1) (Aa (Nb Mmarks (hr.mono (by decide)) (Er (pv 2) rfl)) Af)))))
   (Ae (Fp (NC:=["day"]) (own:=["day"]) (cs:=[]) (ix:=[]) (j:=3) sc.nd rfl rfl rfl (CompScope.of rfl) rfl trivial (Bn (Am Cmarked (hr.mono (by decide)) rfl (Aa (pv 1) (Aa Bi Af)))) (fun _ _ _=>(Bh (i:=0) (show (["day"]:List Str).Nodup from by ac_nf) rfl (Or.inl rfl))) (fun _ _ _=>(Go (Iz Ge Ge Ac (pv 0) (Gp T.g_LAST_DAY rfl)))) (fun _ _ _=>(pv 0)))
   (Aj (Au (Cj (Aa (Am Cmarked (hr.mono (by decide)) rfl (Aa (pv 1) (Aa Bi Af))) (Aa (Am Cmarked (hr.mono (by decide)) rfl (Aa (pv 1) (Aa Bi Af))) (Aa (pv 3) (Aa (Am Cmarked (hr.mono (by decide)) rfl (Aa (pv 1) (Aa Bi Af))) Af)))))))))),?_⟩
 refine⟨zAC _,fun mk nmk=>?_⟩;refine Gk [some (.ref b),some (.ref mk),none,none] rfl ?_;have s1:=Ag nmk (.lst []);have h1:MkAt (upd H mk (.lst [])) mk []:=⟨[],Ab,trivial⟩;generalize upd H mk (.lst [])=H1 at s1 h1;refine (vE rfl ⟨b,Az,dx,fs,_,rfl,s1 _ _ hb,L.cl_Book,L.na_Book_covers,f1,cl,rfl,⟨_,SqL.of (s1 _ _ hcl)⟩,?_⟩);refine Cm (K:=K) (a:=cl) (xs:=cs.map EI) (fun i σ H2=>(∃ o2,σ=[some (.ref b),some (.ref mk),o2,none])/\Same H H2/\MkAt H2 mk (mB (cs.take i))) ⟨⟨none,rfl⟩,s1,by rw[zAY]; exact h1⟩ (fun i σ H2 _ hh=>SqL.of (hh.2.1 _ _ hcl)) ?_ ?_
 ·rintro i x σ H2 hi ⟨⟨o2,rfl⟩,s2,xs,h2,mks⟩
  rw[zAl] at hi;obtain⟨c,hc,rfl⟩:=zAy.mp hi;have lp:=Z4 hc;obtain⟨cx,gs,cv,cc,e1,_,e2,_,_,_,e6,nt,_⟩:=(all c (zAu hc)).same s2;obtain⟨pu,du,fu,rfl,ob,_,_,_,n1⟩:=e6.obj;refine Gk [some (.ref b),some (.ref mk),some (.ref c.p),none] rfl ?_;refine (vE rfl ⟨.inl ⟨rfl,_,SqL.of h2⟩,vE rfl ⟨c.p,Al,cx,gs,_,rfl,e1,L.cl_Cover,L.na_Cover_condition,e2,pu,_,du,fu,rfl,ob,A8.fam _ _,n1,pu,c.t,rfl,e6,rfl,nt,by lia,fun l H3 s3 nl ⟨ys,hl,mk2⟩=>?_⟩⟩);have l1:=mks.len;have l2:=mk2.len;refine⟨mk,l,xs,ys,rfl,rfl,s3 _ _ h2,hl,by rw[zCr]; lia,⟨_,rfl⟩,Bv nmk (s2.trans s3),xs++ys,Ab,?_⟩;have kp:∀ t zs,H3 t=some (.tup zs)->upd H3 mk (.lst (xs++ys)) t=some (.tup zs):=fun t zs e=>by
   rw[Ar (Wp e (s3 _ _ h2) (by intro z; cases z))]; exact e
  rw[Cd hc,A7];exact (mks.mono fun t zs e=>kp t zs (s3 _ _ e)).app (mk2.mono kp)
 ·rintro σ H2 ⟨⟨o2,rfl⟩,s2,mks⟩
  rw[zAa,zAz] at mks;obtain⟨nc,ec⟩:=O7 (cs:=cs) (.inl rfl);obtain⟨nt,et⟩:=O7 (cs:=cs) (.inr rfl);obtain⟨nd,ed⟩:=U6 (cs:=cs) (.inl rfl);obtain⟨ne,ee⟩:=U6 (cs:=cs) (.inr rfl);refine (vE rfl ⟨mk, "day",mB cs,rfl,mks,l6,.inl ⟨nd,ed,fun l ds H3 s3 nl hl pw mem=>⟨l,rfl,⟨_,SqL.of hl⟩,fun r nr=>?_⟩⟩⟩);have lds:ds.length<=60:=by
   have:=Es (l:=ds) (m:=nd) (pw.imp fun h=>Int.ne_of_lt h) fun x hx=>(mem x).mp hx;have w:=Eg "day" (mB cs);rw[ed,zAa] at w
   lia
  refine Cc (K:=K) (a:=l) (xs:=ds.map V.int) (fun i ys H4=>ys=((ds.take i).filter M0).map V.int/\H4 r=some (.lst ys)/\Same H3 H4) ⟨by rw[zAY]; rfl,Ab,Ag nr _⟩
   (fun i ys H4 hi ⟨e,h4,s4⟩=>⟨h4,by rw[e,zAa]; exact zAE (zAZ _ _) (by rw[zAB]; lia),SqL.of (s4 _ _ hl)⟩) (by rw[zCr,zAa]; lia) (fun i x ys H4 hi ⟨e,h4,s4⟩=>?_) (fun ys H4 ⟨e,h4,s4⟩=>?_)
  ·rw[zAl] at hi
   obtain⟨y,hy,rfl⟩:=zAy.mp hi;have es:(ds.take (i+1)).filter M0=(ds.take i).filter M0++if M0 y=true then [y] else []:=by
    rw[Cd hy,zBC];by_cases c:M0 y=true
    ·rw[if_pos c,zBl c,zBq]
    ·rw[if_neg c,zBd c,zBq]
   refine (vE rfl (vF rfl rfl (vE rfl ?_)));by_cases c1:(1:Int)<=y
   ·refine dT c1 (vF rfl rfl (vE rfl ?_))
    by_cases c2:y<=1000000
    ·have c:M0 y=true:=by unfold M0; rw[decide_eq_true c1,decide_eq_true c2]; rfl
     refine dT c2 (vE rfl ⟨h4,rfl,?_,Ab,Bv nr s4⟩);rw[es,if_pos c,zAn,e];rfl
    ·have c:¬ M0 y=true:=by unfold M0; rw[decide_eq_false c2,zCj]; exact zAi
     refine dF c2 ⟨rfl,?_,h4,s4⟩;rw[es,if_neg c,zAT,e]
   ·have c:¬ M0 y=true:=by unfold M0; rw[decide_eq_false c1,Bool.false_and]; exact zAi
    refine dF c1 (vE rfl (Cg ⟨rfl,?_,h4,s4⟩));rw[es,if_neg c,zAT,e]
  rw[zAa,zAz] at e;subst e;refine Gk [some (.ref b),some (.ref mk),o2,some (.ref r)] rfl ?_;have mks4:=mks.same (s3.trans s4);refine (vE rfl ⟨mk, "cause",mB cs,rfl,mks4,l6,.inr ⟨nc,ec,fun la A H5 s5 nla hla ndA soA memA=>?_⟩⟩);refine (vE rfl ⟨mk, "thing",mB cs,rfl,mks4.same s5,l6,.inr ⟨nt,et,fun lb B H6 s6 nlb hlb ndB soB memB=>?_⟩⟩);refine (vE rfl (vE rfl ⟨mk, "cents",mB cs,rfl,mks4.same (s5.trans s6),l6,.inl ⟨ne,ee,fun ld E' H7 s7 nld hld pwE memE=>?_⟩⟩));refine⟨Ce (by show 4<=1000; decide),fun t nt'=>?_⟩;have s8:=Ag nt' (.tup [V.ref la,.ref lb,.ref r,.ref ld]);have s57:=s5.trans (s6.trans s7);refine q t la lb r ld A B (ds.filter M0) E' _ (s2.trans (s3.trans (s4.trans (s57.trans s8)))) Ab (s8 _ _ (s7 _ _ (s6 _ _ hla))) (s8 _ _ (s7 _ _ hlb)) (s8 _ _ (s57 _ _ h4)) (s8 _ _ hld) ndA soA (fun y=>?_) ndB soB (fun y=>?_) (pw.filter _) (fun y=>?_) pwE (fun y=>?_) (s2.free (s3.free (s4.free nla)))
  ·rw[memA,ec,Qb]
  ·rw[memB,et,Qb]
  ·rw[zCb,mem,ed,Ly]
   unfold M0;rw[zBe,decide_eq_true_eq,decide_eq_true_eq]
  ·rw[memE,ee,Ly]
end
abbrev Cv:=Addr×Str×Bool
def Re (c:Cv):V:=.ref c.1
def CvsAt (C:Addr) (H:Hp) (cs:List Cv):Prop:=∀ c∈cs,∃ dx fs,H c.1=some (.ins C dx fs)/\fs.lookup ("name" : Str)=some (.str c.2.1)/\fs.lookup ("waits" : Str)=some (.bl c.2.2)
theorem CvsAt.same {C:Addr} {H H':Hp} {cs:List Cv} (h:CvsAt C H cs) (s:Same H H'):CvsAt C H' cs:=fun c hc=>by
 obtain⟨dx,fs,e,r⟩:=h c hc;exact⟨dx,fs,s _ _ e,r⟩
theorem CvsAt.get {C:Addr} {H:Hp} {cs:List Cv} {i:Nat} {x:V} (h:CvsAt C H cs) (e:(cs.map Re)[i]?=some x):∃ c dx fs,cs[i]?=some c/\x = .ref c.1/\c∈cs/\H c.1=some (.ins C dx fs)/\fs.lookup ("name" : Str)=some (.str c.2.1)/\fs.lookup ("waits" : Str)=some (.bl c.2.2):=by
 rw[zAl] at e;obtain⟨c,hc,rfl⟩:=zAy.mp e;have m:=zAu hc;obtain⟨dx,fs,r⟩:=h c m;exact⟨c,dx,fs,hc,rfl,m,r⟩
theorem CvsAt.ne {C CB:Addr} {H:Hp} {cs:List Cv} {p dx:Addr} (h:CvsAt C H cs) (hp:H p=some (.ins CB dx [])):∀ c∈cs,c.1≠p:=fun c hc z=>by
 obtain⟨d2,fs,e,n,_⟩:=h c hc;rw[z,hp] at e;injection e with e;injection e with _ _ e;subst e;cases n
theorem CvsAt.kb {C CB:Addr} {H H':Hp} {cs:List Cv} {p dx:Addr} (h:CvsAt C H cs) (hp:H p=some (.ins CB dx [])) (k:KB p H H'):CvsAt C H' cs:=fun c hc=>by
 obtain⟨d2,fs,e,r⟩:=h c hc;exact⟨d2,fs,k _ _ e (h.ne hp c hc),r⟩
def Z2 (cs:List Cv):List Cv:=cs.filter (fun c => !c.2.2)++cs.filter (fun c=>c.2.2)
structure HL (CB:Addr) (H:Hp) (p cl ak:Addr) (cs:List Cv):Prop where
 ob:∃ dx fs,H p=some (.ins CB dx fs)/\fs.lookup ("covers" : Str)=some (.ref cl)/\fs.lookup ("asking" : Str)=some (.ref ak)/\fs.lookup ("named" : Str)=none
 hc:H cl=some (.lst (cs.map Re))
 ha:H ak=some (.lst ((Z2 cs).map Re))
def Zn (C CB:Addr):Sp:=fun vs H Q _=>∃ p dx a cs,vs=[.ref p,.ref a]/\H p=some (.ins CB dx [])/\H a=some (.lst (cs.map Re))/\CvsAt C H cs/\cs.length<=8/\(cs.map (·.2.1)).Nodup /\
 ∀ cl ak H',KB p H H'->HL CB H' p cl ak cs->H cl=none->H ak=none->Q .non H'
theorem Sv {α:Type} {l:List α} {f:α->Bool} {i:Nat} {x:α} (h:l[i]?=some x):(l.take (i+1)).filter f=(l.take i).filter f++if f x=true then [x] else []:=by
 rw[Hb h,zBC];by_cases c:f x=true
 ·rw[if_pos c,zBl c,zBq]
 ·rw[if_neg c,zBd c,zBq]
section
variable {P:Program} {w:World} {K:zAb} {mg:Str->Option Value} {base:Heap} {Ad Ai Ah Ak Aq Ax Aw Ap Bj Al Az:Addr}
theorem No:Bb ["self", "covers", "names", "firm", "waiting"] ["self", "covers"] (An Fh):=by injections
theorem Mw {f:Addr} {fd:zCt} (F:Fun K "__init__" "Book.__init__" Fh f fd) (T:Txt K mg) (L:Kl K mg Ad Ai Ah Ak Aq Ax Aw Ap Bj Al Az):FnOk P w K mg base Dv 1 f fd ["self", "covers"] (Zn Al Az):=by
 have sc:=No;bv_omega
 ·obtain⟨_,_,_,_,rfl,_⟩:=h
  rfl
 obtain⟨p,dx,a,cs,rfl,hp,ha,hcs,l8,nd,q⟩:=h;have l60:cs.length<60:=by lia
 refine⟨_,(Ae (Bm (Ay Rc (Bg Bk rfl T.n_len (show zCs _=some (.builtin "len") from rfl) (Aa (pv 1) Af)) (Gp T.g_MOST_COVERS rfl) (Bd _))
    (Aj Gj)
    Bc)
   (Ae (Fp (NC:=["cover"]) (own:=["cover"]) (cs:=[]) (ix:=[]) (j:=2) sc.nd rfl rfl rfl (CompScope.of rfl) rfl trivial (Bn (pv 1)) (fun _ _ _=>(Bh (i:=0) (show (["cover"]:List Str).Nodup from by ac_nf) rfl (Or.inl rfl))) (fun _ _ _=>Cr) (fun _ _ _=>(Ub (K:=K) (pv 0) rfl)))
   (Ae (Bm (Ay Ip (G5 (pv 2) rfl rfl T.n_len rfl T.n_set) (Bg Bk rfl T.n_len (show zCs _=some (.builtin "len") from rfl) (Aa (pv 2) Af)) (Bd _))
    (Aj Gj)
    Bc)
   (Ae (Dj (pv 0) (Ds Dc rfl T.n_list (show zCs _=some (.type "list") from rfl) (Aa (pv 1) Af)) rfl)
   (Ae (Fp (NC:=["cover"]) (own:=["cover"]) (cs:=[]) (ix:=[]) (j:=3) sc.nd rfl rfl rfl (CompScope.of rfl) rfl trivial (Bn (pv 1)) (fun _ _ _=>(Bh (i:=0) (show (["cover"]:List Str).Nodup from by ac_nf) rfl (Or.inl rfl))) (fun _ _ _=>(Go (Bz (Bx (Ub (K:=K) (pv 0) rfl))))) (fun _ _ _=>(pv 0)))
   (Ae (Fp (NC:=["cover"]) (own:=["cover"]) (cs:=[]) (ix:=[]) (j:=4) sc.nd rfl rfl rfl (CompScope.of rfl) rfl trivial (Bn (pv 1)) (fun _ _ _=>(Bh (i:=0) (show (["cover"]:List Str).Nodup from by ac_nf) rfl (Or.inl rfl))) (fun _ _ _=>(Go (Bx (Ub (K:=K) (pv 0) rfl)))) (fun _ _ _=>(pv 0)))
   (Aj (Dj (pv 0) (Ao Dz (pv 3) (pv 4)) rfl)))))))),?_⟩
 refine Oo fun N eN=>?_;have one:1<=sizeLine:=by rw[zCr]; decide
 have k0:KB p H H:=fun _ _ e _=>e;have lm:(cs.map Re).length=cs.length:=zAa _;have nap:a≠p:=Wp ha hp (by intro z; cases z);refine (vE rfl (x2 a _ (c3 rfl (.inl (SqL.of ha)) (vF rfl rfl (vE rfl ?_)))));refine dF (by rw[lm]; lia) ?_;refine Lg eN fun N eN=>?_;refine (vE rfl ⟨a,rfl,⟨_,SqL.of ha⟩,fun n nn=>?_⟩);refine Cc (K:=K) (a:=a) (xs:=cs.map Re) (fun i ys H2=>ys=((cs.take i).map (·.2.1)).map V.str/\H2 n=some (.lst ys)/\Same H H2) ⟨rfl,Ab,Ag nn _⟩
  (fun i ys H2 _ ⟨e,h1,s2⟩=>⟨h1,by rw[e,zAa,zAa,zAB]; lia,SqL.of (s2 _ _ ha)⟩) (by rw[zCr]; lia) (fun i x ys H2 hi ⟨e,h1,s2⟩=>?_) (fun ys H2 ⟨e,h1,s2⟩=>?_)
 ·obtain⟨c,dc,fc,ec,rfl,mc,hc,n1,w1⟩:=hcs.get hi
  refine (vE rfl (x5 c.1 Al dc fc _ (GH rfl (s2 _ _ hc) L.cl_Cover L.na_Cover_name n1 h1 rfl ?_ Ab (fun b o z=>?_))))
  ·rw[Hb ec,zAn,zAn,e]
   rfl
  ·rw[Ar (At z nn)]
   exact s2 b o z
 rw[lm,zAz] at e;subst e;refine Jk eN [some (.ref p),some (.ref a),some (.ref n),none,none] rfl fun N eN=>?_;have hp2:=s2 _ _ hp;have ha2:=s2 _ _ ha;have k2:KB p H H2:=k0.same s2;have hcs2:=hcs.same s2;refine (vE rfl ⟨n,cs.map (·.2.1),rfl,SqL.of h1,by rw[zAa]; exact l60,fun m m1 m2=>?_⟩);refine (vE rfl (x2 n _ (c3 rfl (.inl (SqL.of h1)) (vF rfl rfl (vE rfl ?_)))));have:=m1 nd;refine dF (by rw[zAa]; lia) ?_;clear m1 m2 this;refine Lg eN fun N eN=>?_;refine (vE rfl (x2 a _ (c3 rfl (.inl (SqL.of ha2)) (fun cl ncl=>?_))));have s3:=Ag ncl (.lst (cs.map Re));have ncp:cl≠p:=(At hp2 ncl).symm;refine (vE rfl ⟨p,Az,dx,[],rfl,s3 _ _ hp2,L.cl_Book,L.na_Book_covers,by decide,?_⟩);have k3:KB p H (upd (upd H2 cl (.lst (cs.map Re))) p (.ins Az dx (Bl "covers" (.ref cl) []))):=(k2.same s3).upd _;have e3:upd (upd H2 cl (.lst (cs.map Re))) p (.ins Az dx (Bl "covers" (.ref cl) [])) p=some (.ins Az dx (Bl "covers" (.ref cl) [])):=Ab;have c3:upd (upd H2 cl (.lst (cs.map Re))) p (.ins Az dx (Bl "covers" (.ref cl) [])) cl=some (.lst (cs.map Re)):=by rw[Ar ncp,Ab]
 have fcl:H cl=none:=k2.free ncp ncl;have hcs3:=hcs.kb hp k3;have ha3:=k3 _ _ ha nap;generalize upd (upd H2 cl (.lst (cs.map Re))) p (.ins Az dx (Bl "covers" (.ref cl) []))=H3 at k3 e3 c3 hcs3 ha3;refine Lg eN fun N eN=>?_;refine (vE rfl ⟨a,rfl,⟨_,SqL.of ha3⟩,fun fi nfi=>?_⟩);refine Cc (K:=K) (a:=a) (xs:=cs.map Re) (fun i ys H4=>ys=((cs.take i).filter (fun c => !c.2.2)).map Re/\H4 fi=some (.lst ys)/\Same H3 H4) ⟨rfl,Ab,Ag nfi _⟩
  (fun i ys H4 _ ⟨e,h1,s4⟩=>⟨h1,by rw[e,zAa]; exact zAE (zAZ _ _) (by rw[zAB]; lia),SqL.of (s4 _ _ ha3)⟩) (by rw[zCr]; lia) (fun i x ys H4 hi ⟨e,h1,s4⟩=>?_) (fun ys H4 ⟨e,hf4,s4⟩=>?_)
 ·obtain⟨c,dc,fc,ec,rfl,mc,hc,n1,w1⟩:=hcs3.get hi
  refine (vE rfl (x5 c.1 Al dc fc _ ⟨rfl,s4 _ _ hc,L.cl_Cover,L.na_Cover_waits,w1,_,rfl,?_⟩));have es:=Sv (f:=fun c:Cv => !c.2.2) ec;cases cw:c.2.2 with
  | true=>
   refine Cg ⟨rfl,?_,h1,s4⟩;rw[es,e,cw];simp
  | false=>
   refine Kn (vE rfl ⟨h1,rfl,?_,Ab,fun b o z=>?_⟩)
   ·rw[es,e,cw]
    simp [Re]
   ·rw[Ar (At z nfi)]
    exact s4 b o z
 rw[lm,zAz] at e;subst e;refine Jk eN [some (.ref p),some (.ref a),some (.ref n),some (.ref fi),none] rfl fun N eN=>?_;have ha4:=s4 _ _ ha3;have hcs4:=hcs3.same s4;refine (vE rfl ⟨a,rfl,⟨_,SqL.of ha4⟩,fun wa nwa=>?_⟩);refine Cc (K:=K) (a:=a) (xs:=cs.map Re) (fun i ys H5=>ys=((cs.take i).filter (fun c=>c.2.2)).map Re/\H5 wa=some (.lst ys)/\Same H4 H5) ⟨rfl,Ab,Ag nwa _⟩
  (fun i ys H5 _ ⟨e,h1,s5⟩=>⟨h1,by rw[e,zAa]; exact zAE (zAZ _ _) (by rw[zAB]; lia),SqL.of (s5 _ _ ha4)⟩) (by rw[zCr]; lia) (fun i x ys H5 hi ⟨e,h1,s5⟩=>?_) (fun ys H5 ⟨e,hw5,s5⟩=>?_)
 ·obtain⟨c,dc,fc,ec,rfl,mc,hc,n1,w1⟩:=hcs4.get hi
  refine (vE rfl (x5 c.1 Al dc fc _ ⟨rfl,s5 _ _ hc,L.cl_Cover,L.na_Cover_waits,w1,_,rfl,?_⟩));have es:=Sv (f:=fun c:Cv=>c.2.2) ec;cases cw:c.2.2 with
  | false=>
   refine Cg ⟨rfl,?_,h1,s5⟩;rw[es,e,cw];simp
  | true=>
   refine Kn (vE rfl ⟨h1,rfl,?_,Ab,fun b o z=>?_⟩)
   ·rw[es,e,cw]
    simp [Re]
   ·rw[Ar (At z nwa)]
    exact s5 b o z
 rw[lm,zAz] at e;subst e;subst eN; refine ED [some (.ref p),some (.ref a),some (.ref n),some (.ref fi),some (.ref wa)] rfl ?_;have hf5:=s5 _ _ hf4;have e5:=s5 _ _ (s4 _ _ e3);have c5:=s5 _ _ (s4 _ _ c3);have k5:=(k3.same s4).same s5;refine (vE rfl (vE rfl (x4 fi wa _ _ (c6 rfl rfl hf5 hw5 ?_ (fun ak nak=>?_)))))
 ·rw[zAa,zAa]
  have:=zAZ (fun c:Cv => !c.2.2) cs;have:=zAZ (fun c:Cv=>c.2.2) cs;rw[zCr]
  lia
 have nkp:ak≠p:=(At e5 nak).symm;have s6:=Ag nak (.lst ((cs.filter (fun c => !c.2.2)).map Re++(cs.filter (fun c=>c.2.2)).map Re));have g3:(Bl "covers" (.ref cl) []).length<=1:=Ey _ _ _;refine (vE rfl (x4 p Az dx _ (c6 rfl (s6 _ _ e5) L.cl_Book L.na_Book_asking (zCg g3 (by decide)) ?_)));refine q cl ak _ ((k5.same s6).upd _) ⟨⟨dx,_,Ab,by rw[f1 (by ac_nf),f0],f0,by rw[f1 (by ac_nf),f1 (by ac_nf)]; rfl⟩,?_,?_⟩ fcl (k5.free nkp nak)
 ·rw[Ar ncp]
  exact s6 _ _ c5
 ·rw[Ar nkp,Ab]
  unfold Z2;rw[zAn]
def Tps (H:Hp):List V->List (List V)->Prop
 | [],[]=>True
 | x::xs,r::rs=>(∃ t,x = .ref t/\H t=some (.tup r))/\Tps H xs rs
 | [],_::_=>False
 | _::_,[]=>False
theorem Tps.mono {H H':Hp} (s:∀ t r,H t=some (.tup r)->H' t=some (.tup r)):∀ {xs:List V} {rs:List (List V)},Tps H xs rs->Tps H' xs rs
 | [],[],_=>trivial
 | x::xs,r::rs,h=>by
  obtain⟨⟨t,e,h1⟩,h2⟩:=h;exact⟨⟨t,e,s _ _ h1⟩,h2.mono s⟩
 | [],_::_,h=>h.elim
 | _::_,[],h=>h.elim
theorem Tps.same {H H':Hp} {xs:List V} {rs:List (List V)} (h:Tps H xs rs) (s:Same H H'):Tps H' xs rs:=h.mono fun _ _ e=>s _ _ e
theorem Tps.len {H:Hp}:∀ {xs:List V} {rs:List (List V)},Tps H xs rs->xs.length=rs.length
 | [],[],_=>rfl
 | x::xs,r::rs,h=>by
  rw[zAj,zAj,h.2.len]
 | [],_::_,h=>h.elim
 | _::_,[],h=>h.elim
theorem Tps.app {H:Hp}:∀ {xs ys:List V} {rs us:List (List V)},Tps H xs rs->Tps H ys us->Tps H (xs++ys) (rs++us)
 | [],_,[],_,_,g=>g
 | x::xs,_,r::rs,_,h,g=>⟨h.1,h.2.app g⟩
 | [],_,_::_,_,h,_=>h.elim
 | _::_,_,[],_,h,_=>h.elim
theorem Tps.get {H:Hp}:∀ {xs:List V} {rs:List (List V)} {i:Nat} {x:V},Tps H xs rs->xs[i]?=some x->∃ t r,rs[i]?=some r/\x = .ref t/\H t=some (.tup r)
 | [],_,_,_,_,e=>by simp at e
 | x::xs,r::rs,0,y,h,e=>by
  obtain⟨⟨t,e1,h1⟩,_⟩:=h;simp at e;subst e;exact⟨t,r,rfl,e1,h1⟩
 | x::xs,r::rs,i+1,y,h,e=>by
  rw[zAL] at e ⊢;exact h.2.get e
 | _::_,[],_,_,h,_=>h.elim
theorem Tps.lst {H:Hp} {p:Addr} {o:HO} {ys xs:List V} {rs:List (List V)} (h:Tps H xs rs) (hp:H p=some (.lst ys)):Tps (upd H p o) xs rs:=h.mono fun t r e=>by
 rw[Ar (fun z=>by rw[z,hp] at e; cases e)];exact e
def BK (p:Int×Int):List V:=[.int p.1,.int p.2]
def Ck (D:List Int):List (Int×Int):=(0::D).zip (D.map (· - 1)++[1000000])
def Gs (L:List Int) (bd:Int):List (Int×Int):=(1::L.map (· + 1)).zip (L++[bd])
theorem Tq {H:Hp}:∀ {ts:List Addr} {as bs:List Int},ts.length=min as.length bs.length->(∀ (j:Nat) t,ts[j]?=some t->∃ x y,(as.map V.int)[j]?=some x/\(bs.map V.int)[j]?=some y/\H t=some (.tup [x,y]))->Tps H (ts.map V.ref) ((as.zip bs).map BK)
 | [],[],_,_,_=>trivial
 | [],_::_,[],_,_=>trivial
 | [],a::as,b::bs,l,_=>by simp at l
 | t::ts,[],_,l,_=>by simp at l
 | t::ts,_::_,[],l,_=>by simp at l
 | t::ts,a::as,b::bs,l,h=>by
  obtain⟨x,y,ex,ey,ht⟩:=h 0 t rfl;simp at ex ey;subst ex ey;refine⟨⟨t,rfl,ht⟩,Tq (by simp at l; omega) fun j u hu=>?_⟩;exact h (j+1) u hu
def Yb:Sp:=fun vs H Q _=>∃ d,∃ ds:List Int,vs=[.ref d]/\H d=some (.lst (ds.map V.int))/\ds.length<=60/\∀ r xs H',H r=none->Same H H'->H' r=some (.lst xs)->Tps H' xs ((Ck ds).map BK)->Q (.ref r) H'
theorem Nm:Bb ["days", "firsts", "lasts"] ["days"] (An Fb):=by injections
theorem Nl {f:Addr} {fd:zCt} (F:Fun K "day_stretches" "day_stretches" Fb f fd) (T:Txt K mg):FnOk P w K mg base Dv 1 f fd ["days"] Yb:=by
 have sc:=Nm;bv_omega
 ·obtain⟨_,_,rfl,_⟩:=h
  rfl
 obtain⟨d,ds,rfl,hd,l6,q⟩:=h;refine⟨_,(Ae (Ba (i:=1) sc.nd rfl (Or.inl rfl) (Ao Dz (Bq (Aa Ac Af)) (pv 0)))
   (Ae (Ba (i:=2) sc.nd rfl (Or.inl rfl) (Ao Dz (Da (NC:=["day"]) (own:=["day"]) (cs:=[]) (ix:=[]) rfl (CompScope.of rfl) rfl trivial (Bn (pv 0)) (fun _ _ _=>(Bh (i:=0) (show (["day"]:List Str).Nodup from by ac_nf) rfl (Or.inl rfl))) (fun _ _ _=>Cr) (fun _ _ _=>(Ao Fy (pv 0) Ac))) (Bq (Aa (Gp T.g_LAST_DAY rfl) Af))))
   (Aj (Au (Qd rfl T.n_list rfl T.n_zip (Aa (pv 1) (Aa (pv 2) Af))))))),?_⟩
 have sl:=zCr;have lm:(ds.map V.int).length=ds.length:=zAa _;refine⟨Ce (by show 1<=1000; decide),fun o1 n1=>vE rfl ?_⟩;have s1:=Ag n1 (.lst [.int 0]);refine⟨o1,d,_,_,rfl,rfl,Ab,s1 _ _ hd,by rw[lm]; show 1+_<=_; lia,fun a na=>?_⟩;refine Gk [some (.ref d),some (.ref a),none] rfl ?_;have s2:=s1.trans (Ag na (.lst ([.int 0]++ds.map V.int)));have ha:upd (upd H o1 (.lst [.int 0])) a (.lst ([.int 0]++ds.map V.int)) a=some (.lst ((0::ds).map V.int)):=Ab;generalize upd (upd H o1 (.lst [.int 0])) a (.lst ([.int 0]++ds.map V.int))=H2 at s2 ha;refine (vE rfl ⟨d,rfl,⟨_,SqL.of (s2 _ _ hd)⟩,fun r nr=>?_⟩);refine Cc (K:=K) (a:=d) (xs:=ds.map V.int) (fun i ys H3=>ys=((ds.take i).map (· - 1)).map V.int/\H3 r=some (.lst ys)/\Same H2 H3) ⟨rfl,Ab,Ag nr _⟩
  (fun i ys H3 hi ⟨e,h1,s3⟩=>⟨h1,by rw[e,zAa,zAa,zAB]; lia,SqL.of (s3 _ _ (s2 _ _ hd))⟩) (by rw[lm]; lia) (fun i v ys H3 hi ⟨e,h1,s3⟩=>?_) (fun ys H3 ⟨e,h1,s3⟩=>?_)
 ·rw[zAl] at hi
  obtain⟨x,hx,rfl⟩:=zAy.mp hi;refine (vE rfl (vF rfl rfl ⟨h1,rfl,?_,Ab,Bv nr s3⟩));rw[Cd hx,zAn,zAn,e];rfl
 ·rw[lm,zAz] at e
  subst e;refine⟨Ce (by show 1<=1000; decide),fun o2 n2=>?_⟩;have s4:=s3.trans (Ag n2 (.lst [.int 1000000]));have h4:=Ag n2 (.lst [.int 1000000]) _ _ h1;refine⟨r,o2,_,_,rfl,rfl,h4,Ab,by rw[zAa,zAa]; show _+1<=_; lia,fun b nb=>?_⟩;refine Gk [some (.ref d),some (.ref a),some (.ref b)] rfl ?_;have s5:=s4.trans (Ag nb (.lst ((ds.map (· - 1)).map V.int++[.int 1000000])));have hb:upd (upd H3 o2 (.lst [.int 1000000])) b (.lst ((ds.map (· - 1)).map V.int++[.int 1000000])) b=some (.lst ((ds.map (· - 1)++[1000000]).map V.int)):=by rw[Ab,zAn]; rfl
  generalize upd (upd H3 o2 (.lst [.int 1000000])) b (.lst ((ds.map (· - 1)).map V.int++[.int 1000000]))=H5 at s5 hb;refine (vE rfl (vE rfl ⟨a,b,_,_,rfl,SqL.of (s5 _ _ ha),SqL.of hb,fun z ts H6 nz s6 lt hz im=>?_⟩));have S:=s2.trans s5;refine q z _ H6 (S.free nz) (S.trans s6) hz (Tq (by rw[lt,zAa,zAa]) fun j t hj=>?_);obtain⟨x,y,hx,hy,nt,h6⟩:=im j t hj;exact⟨x,y,hx,hy,h6⟩
theorem Ob {so:Str} {cs:List Cw} {A:List Str} (l6:(mB cs).length<=60) (nd:A.Nodup) (mem:∀ y,y∈A↔V.str y∈Bp so (mB cs)):A.length<=60:=by
 have nd2:(A.map V.str).Nodup:=by
  rw[zAJ] at nd ⊢;rw[zBo];exact nd.imp fun n e=>n (V.str.inj e)
 have:=Es (m:=Bp so (mB cs)) nd2 fun v hv=>by
  obtain⟨y,hy,rfl⟩:=zAA.mp hv;exact (mem y).mp hy
 have w:=Eg so (mB cs);rw[zAa] at this
 lia
theorem BL {so:Str} {cs:List Cw} {A:List Int} (l6:(mB cs).length<=60) (pw:A.Pairwise (· < ·)) (mem:∀ y,y∈A↔V.int y∈Bp so (mB cs)):A.length<=60:=by
 have nd2:(A.map V.int).Nodup:=by
  rw[zAJ,zBo];exact pw.imp fun n e=>by
   have:=V.int.inj e
   lia
 have:=Es (m:=Bp so (mB cs)) nd2 fun v hv=>by
  obtain⟨y,hy,rfl⟩:=zAA.mp hv;exact (mem y).mp hy
 have w:=Eg so (mB cs);rw[zAa] at this
 lia
theorem V1 {so:Str} {cs:List Cw} {A:List Int} (l6:(mB cs).length<=60) (pw:A.Pairwise (· < ·)) (mem:∀ y,y∈A↔(V.int y∈Bp so (mB cs)/\1<=y/\y<=1000000)):A.length<=60:=by
 have nd2:(A.map V.int).Nodup:=by
  rw[zAJ,zBo];exact pw.imp fun n e=>by
   have:=V.int.inj e
   lia
 have:=Es (m:=Bp so (mB cs)) nd2 fun v hv=>by
  obtain⟨y,hy,rfl⟩:=zAA.mp hv;exact ((mem y).mp hy).1
 have w:=Eg so (mB cs);rw[zAa] at this
 lia
def R4 (κ:A8) (C CB:Addr):Sp:=fun vs H Q _=>∃ b cs,∃ bd:Int,vs=[.ref b,.int bd]/\BwAt κ C CB H b cs/\(mB cs).length<=60/\1<=bd/\∀ r xs H' (E':List Int),H r=none->Same H H'->E'.Pairwise (· < ·)->(∀ y,y∈E'↔V.int y∈Bp "cents" (mB cs))->H' r=some (.lst xs)->Tps H' xs ((Gs (E'.filter fun y=>decide (1<=y/\y<bd)) bd).map BK)->Q (.ref r) H'
theorem Of:Bb ["book", "bound", "amounts", "firsts"] ["book", "bound"] (An Gi):=by injections
theorem Og {f:Addr} {fd:zCt} (F:Fun K "stretches_of" "stretches_of" Gi f fd) (T:Txt K mg) (Cmarks_of:Ct P w K mg base 9 "marks_of" ["book"] (Fv (A8.mk Ad Ai Ah Ak Aq Ax Aw Ap) Al Az)):FnOk P w K mg base Dv 10 f fd ["book", "bound"] (R4 (A8.mk Ad Ai Ah Ak Aq Ax Aw Ap) Al Az):=by
 have sc:=Of;bv_omega
 ·obtain⟨_,_,_,rfl,_⟩:=h
  rfl
 obtain⟨b,cs,bd,rfl,bw,l6,b1,q⟩:=h;refine⟨_,(Ae (Fp (NC:=["amount", "bound"]) (own:=["amount"]) (cs:=["bound"]) (ix:=[1]) (j:=2) sc.nd rfl rfl rfl (CompScope.of rfl) rfl ⟨⟨rfl,.inl rfl,rfl⟩,trivial⟩ (Bn (Av Be (Am Cmarks_of (hr.mono (by decide)) rfl (Aa (pv 0) Af)) Ac (fun _ _=>rfl))) (fun _ _ _=>(Bh (i:=0) (show (["amount", "bound"]:List Str).Nodup from by ac_nf) rfl (Or.inl rfl))) (fun _ _ _=>(Go (Iz Ge Ip Ac (pv 0) (pv 1)))) (fun _ _ _=>(pv 0)))
   (Ae (Ba (i:=3) sc.nd rfl (Or.inl rfl) (Ao Dz (Bq (Aa Ac Af)) (Da (NC:=["amount"]) (own:=["amount"]) (cs:=[]) (ix:=[]) rfl (CompScope.of rfl) rfl trivial (Bn (pv 2)) (fun _ _ _=>(Bh (i:=0) (show (["amount"]:List Str).Nodup from by ac_nf) rfl (Or.inl rfl))) (fun _ _ _=>Cr) (fun _ _ _=>(Ao Ca (pv 0) Ac)))))
   (Aj (Au (Qd rfl T.n_list rfl T.n_zip (Aa (pv 3) (Aa (Ao Dz (pv 2) (Bq (Aa (pv 1) Af))) Af))))))),?_⟩
 have sl:=zCr;refine (vE rfl ⟨b,cs,rfl,bw,l6,fun mk ma mb mc md A' B' D' E' H1 s1 hmk hma hmb hmc hmd _ _ _ _ _ _ pD memD pE memE _=>?_⟩);refine (vI rfl rfl (SqT.of hmk) rfl ⟨md,rfl,⟨_,SqL.of hmd⟩,fun r nr=>?_⟩);have lE:=BL l6 pE memE;have lm:(E'.map V.int).length=E'.length:=zAa _;have fl:(E'.filter fun y=>decide (1<=y/\y<bd)).length<=E'.length:=zAZ _ _;refine Cc (K:=K) (a:=md) (xs:=E'.map V.int) (fun i ys H2=>ys=((E'.take i).filter fun y=>decide (1<=y/\y<bd)).map V.int/\H2 r=some (.lst ys)/\Same H1 H2) ⟨rfl,Ab,Ag nr _⟩
  (fun i ys H2 hi ⟨e,h1,s2⟩=>⟨h1,by rw[e,zAa]; exact zAE (zAZ _ _) (by rw[zAB]; lia),SqL.of (s2 _ _ hmd)⟩) (by rw[lm]; lia) (fun i v ys H2 hi ⟨e,h1,s2⟩=>?_) (fun ys H2 ⟨e,h1,s2⟩=>?_)
 ·rw[zAl] at hi
  obtain⟨x,hx,rfl⟩:=zAy.mp hi;have es:(E'.take (i+1)).filter (fun y=>decide (1<=y/\y<bd))=(E'.take i).filter (fun y=>decide (1<=y/\y<bd))++if 1<=x/\x<bd then [x] else []:=by
   rw[Cd hx,zBC];by_cases c:1<=x/\x<bd
   ·rw[if_pos c,zBl (by exact decide_eq_true c),zBq]
   ·rw[if_neg c,zBd (by rw[decide_eq_false c]; exact zAi),zBq]
  refine (vE rfl (vF rfl rfl (vE rfl ?_)));by_cases c1:1<=x
  ·refine dT c1 (vE rfl (vF rfl rfl (vE rfl ?_)))
   by_cases c2:x<bd
   ·refine dT c2 (vE rfl ⟨h1,rfl,?_,Ab,Bv nr s2⟩)
    rw[es,if_pos ⟨c1,c2⟩,zAn,e];rfl
   ·refine dF c2 ⟨rfl,?_,h1,s2⟩
    rw[es,if_neg (fun z=>c2 z.2),zAT,e]
  ·refine dF c1 (vE rfl (Cg ⟨rfl,?_,h1,s2⟩))
   rw[es,if_neg (fun z=>c1 z.1),zAT,e]
 ·rw[lm,zAz] at e
  subst e;refine Gk [some (.ref b),some (.int bd),some (.ref r),none] rfl ?_;have q2:=fun z xs H' n1 s'=>q z xs H' E' n1 s' pE memE;generalize E'.filter (fun y=>decide (1<=y/\y<bd))=L at h1 fl q2;have lL:(L.map V.int).length=L.length:=zAa _;refine⟨Ce (by show 1<=1000; decide),fun o1 n1=>?_⟩;have s3:=s2.trans (Ag n1 (.lst [.int 1]));have h3:=Ag n1 (.lst [.int 1]) _ _ h1;have ho:upd H2 o1 (.lst [.int 1]) o1=some (.lst [.int 1]):=Ab;generalize upd H2 o1 (.lst [.int 1])=H3 at s3 h3 ho;refine (vE rfl ⟨r,rfl,⟨_,SqL.of h3⟩,fun r2 nr2=>?_⟩);refine Cc (K:=K) (a:=r) (xs:=L.map V.int) (fun i ys H4=>ys=((L.take i).map (· + 1)).map V.int/\H4 r2=some (.lst ys)/\Same H3 H4) ⟨rfl,Ab,Ag nr2 _⟩
   (fun i ys H4 hi ⟨e,h4,s4⟩=>⟨h4,by rw[e,zAa,zAa,zAB]; lia,SqL.of (s4 _ _ h3)⟩) (by rw[lL]; lia) (fun i v ys H4 hi ⟨e,h4,s4⟩=>?_) (fun ys H4 ⟨e,h4,s4⟩=>?_)
  ·rw[zAl] at hi
   obtain⟨x,hx,rfl⟩:=zAy.mp hi;refine (vE rfl (vF rfl rfl ⟨h4,rfl,?_,Ab,Bv nr2 s4⟩));rw[Cd hx,zAn,zAn,e];rfl
  ·rw[lL,zAz] at e
   subst e;refine⟨o1,r2,_,_,rfl,rfl,s4 _ _ ho,h4,by rw[zAa,zAa]; show 1+_<=_; lia,fun a na=>?_⟩;refine Gk [some (.ref b),some (.int bd),some (.ref r),some (.ref a)] rfl ?_;have s5:=s4.trans (Ag na (.lst ([.int 1]++(L.map (· + 1)).map V.int)));have ha:upd H4 a (.lst ([.int 1]++(L.map (· + 1)).map V.int)) a=some (.lst ((1::L.map (· + 1)).map V.int)):=Ab;generalize upd H4 a (.lst ([.int 1]++(L.map (· + 1)).map V.int))=H5 at s5 ha;refine (vE rfl (vE rfl (vE rfl ?_)));refine⟨Ce (by show 1<=1000; decide),fun o2 n2=>?_⟩;have s6:=s5.trans (Ag n2 (.lst [.int bd]));refine⟨r,o2,_,_,rfl,rfl,s6 _ _ h3,Ab,by rw[lL]; show _+1<=_; lia,fun c nc=>?_⟩;have s7:=s6.trans (Ag nc (.lst (L.map V.int++[.int bd])));have hc:upd (upd H5 o2 (.lst [.int bd])) c (.lst (L.map V.int++[.int bd])) c=some (.lst ((L++[bd]).map V.int)):=by rw[Ab,zAn]; rfl
   have ha7:=Ag nc (.lst (L.map V.int++[.int bd])) _ _ (Ag n2 (.lst [.int bd]) _ _ ha);generalize upd (upd H5 o2 (.lst [.int bd])) c (.lst (L.map V.int++[.int bd]))=H7 at s7 hc ha7;refine⟨a,c,_,_,rfl,SqL.of ha7,SqL.of hc,fun z ts H8 nz s8 lt hz im=>?_⟩;have S:=s1.trans (s3.trans s7);refine q2 z _ H8 (S.free nz) (S.trans s8) hz (Tq (by rw[lt,zAa,zAa]) fun j t hj=>?_);obtain⟨x,y,hx,hy,nt,h8⟩:=im j t hj;exact⟨x,y,hx,hy,h8⟩
end
def Cf (ca th:Str) (p:Int×Int):List V:=[.str ca,.str th,.int p.1,.int p.2]
def Fi (ca:Str) (D:List Int) (Bs:List Str):List (List V):=(Bs.map fun th=>(Ck D).map (Cf ca th)).flatten
def Cu (B:List Str) (D:List Int) (As:List Str):List (List V):=(As.map fun ca=>Fi ca D (B++[("" : Str)])).flatten
theorem Dp (D:List Int):(Ck D).length=D.length+1:=by
 unfold Ck;rw[List.length_zip,zAe,zAa];simp
theorem Pe {α β:Type} {f:α->List β} {k:Nat} (h:∀ x,(f x).length=k):∀ l:List α,(l.map f).flatten.length=l.length*k
 | []=>by simp
 | x::l=>by
  rw[zAw,zBi,zAe,h,Pe h l,zAj,zBO]
  lia
theorem Kq (ca:Str) (D:List Int) (Bs:List Str):(Fi ca D Bs).length=Bs.length*(D.length+1):=Pe (fun x=>by rw[zAa,Dp]) Bs
theorem Gf (B:List Str) (D:List Int) (As:List Str):(Cu B D As).length=As.length*((B.length+1)*(D.length+1)):=Pe (fun x=>by rw[Kq,zAe]; rfl) As
theorem Wh (ca:Str) (D:List Int) (Bs:List Str) (th:Str):Fi ca D (Bs++[th])=Fi ca D Bs++(Ck D).map (Cf ca th):=by
 unfold Fi;rw[zAn,zCa];simp
theorem Xl (B:List Str) (D:List Int) (As:List Str) (ca:Str):Cu B D (As++[ca])=Cu B D As++Fi ca D (B++[("" : Str)]):=by
 unfold Cu;rw[zAn,zCa];simp
def Wd (cs:List Cw):Prop:=∀ (A B:List Str) (D:List Int),A.Nodup->(∀ y,y∈A↔V.str y∈Bp "cause" (mB cs))->B.Nodup->(∀ y,y∈B↔V.str y∈Bp "thing" (mB cs))->D.Pairwise (· < ·)->(∀ y,y∈D↔(V.int y∈Bp "day" (mB cs)/\1<=y/\y<=1000000))->(A.length+1)*(B.length+1)*(D.length+1)<=120
structure Mks4 (cs:List Cw) (A B:List Str) (D E:List Int):Prop where
 nA:A.Nodup
 sA:PyProof.Rows.sortedS A=true
 mA:∀ y,y∈A↔V.str y∈Bp "cause" (mB cs)
 nB:B.Nodup
 sB:PyProof.Rows.sortedS B=true
 mB':∀ y,y∈B↔V.str y∈Bp "thing" (mB cs)
 pD:D.Pairwise (· < ·)
 mD:∀ y,y∈D↔(V.int y∈Bp "day" (mB cs)/\1<=y/\y<=1000000)
 pE:E.Pairwise (· < ·)
 mE:∀ y,y∈E↔V.int y∈Bp "cents" (mB cs)
theorem Mks4.uniq {cs:List Cw} {A B A' B':List Str} {D E D' E':List Int} (h:Mks4 cs A B D E) (g:Mks4 cs A' B' D' E'):A=A'/\B=B'/\D=D'/\E=E':=
 ⟨Wq h.nA g.nA h.sA g.sA fun x=>(h.mA x).trans (g.mA x).symm,Wq h.nB g.nB h.sB g.sB fun x=>(h.mB' x).trans (g.mB' x).symm,Ll h.pD g.pD fun x=>(h.mD x).trans (g.mD x).symm,Ll h.pE g.pE fun x=>(h.mE x).trans (g.mE x).symm⟩
def Ua (κ:A8) (C CB:Addr):Sp:=fun vs H Q _=>∃ b cs,vs=[.ref b]/\BwAt κ C CB H b cs/\(mB cs).length<=60/\Wd cs/\∀ r xs H' A B D E,Same H H'->H r=none->Mks4 cs A B D E->H' r=some (.lst xs)->Tps H' xs (Cu B D (A++[("" : Str)]))->Q (.ref r) H'
def fstN (ns:List Str) (n:Str):Prop:=∃ p,p<=60/\n=tx (Gm p)/\tx (Gm p)∉ns/\∀ j,j<p->tx (Gm j)∈ns
theorem fstN.uniq {ns:List Str} {n m:Str} (h:fstN ns n) (g:fstN ns m):n=m:=by
 obtain⟨p,_,rfl,h1,h2⟩:=h;obtain⟨q,_,rfl,g1,g2⟩:=g;rcases Nat.lt_trichotomy p q with c | c | c
 ·exact absurd (g2 p c) h1
 ·rw[c]
 ·exact absurd (h2 q c) g1
def othN (ns:List Str) (n m:Str):Prop:=(n = ""/\fstN ns m)\/(n ≠ ""/\m=n)
def Qz (κ:A8) (C CB:Addr):Sp:=fun vs H Q _=>∃ b cs t ca th,∃ fi la cn:Int,vs=[.ref b,.ref t,.int cn]/\BwAt κ C CB H b cs/\(mB cs).length<=60/\H t=some (.tup [.str ca,.str th,.int fi,.int la])/\∀ r th' ca' H' A B D E,Same H H'->H r=none->Mks4 cs A B D E->othN A ca ca'->othN B th th'->H' r=some (.tup [.int 0,.int fi,.str "e",.str th',.str ca',.int cn])->Q (.ref r) H'
theorem AF {H:Hp} {t p:Addr} {xs ys:List V} (h:H t=some (.tup xs)) (hp:H p=some (.lst ys)):t≠p:=fun e=>by
 rw[e,hp] at h;cases h
theorem Gb {H:Hp} {o1 a:Addr} {xs ys:List V} (n1:H o1=none) (na:upd H o1 (.lst ys) a=none):Same H (upd (upd H o1 (.lst ys)) a (.lst (xs++ys)))/\upd (upd H o1 (.lst ys)) a (.lst (xs++ys)) a=some (.lst (xs++ys)):=⟨(Ag n1 _).trans (Ag na _),Ab⟩
section
variable {P:Program} {w:World} {K:zAb} {mg:Str->Option Value} {base:Heap} {Ad Ai Ah Ak Aq Ax Aw Ap Bj Al Az:Addr}
theorem Yx:Bb ["book", "cell", "cents", "marks", "cause", "thing"] ["book", "cell", "cents"] (An Nc):=by injections
theorem Zb {f:Addr} {fd:zCt} (F:Fun K "loss_in" "loss_in" Nc f fd) (T:Txt K mg) (Cmarks_of:Ct P w K mg base 9 "marks_of" ["book"] (Fv (A8.mk Ad Ai Ah Ak Aq Ax Aw Ap) Al Az)) (Canother:Ct P w K mg base 2 "another" ["names"] Hg):FnOk P w K mg base Dv 10 f fd ["book", "cell", "cents"] (Qz (A8.mk Ad Ai Ah Ak Aq Ax Aw Ap) Al Az):=by
 have sc:=Yx;bv_omega
 ·obtain⟨_,_,_,_,_,_,_,_,rfl,_⟩:=h
  rfl
 obtain⟨b,cs,t,ca,th,fi,la,cn,rfl,bw,l6,ht,q⟩:=h;refine⟨_,(Ae (Ba (i:=3) sc.nd rfl (Or.inl rfl) (Am Cmarks_of (hr.mono (by decide)) rfl (Aa (pv 0) Af)))
   (Ae (Ba (i:=4) sc.nd rfl (Or.inl rfl) (Hk (Ay Db (Av Be (pv 1) Ac (fun _ _=>rfl)) (Fo T.g_ANY_OTHER rfl) (Bd _)) (Am Canother (hr.mono (by decide)) rfl (Aa (Av Be (pv 3) Ac (fun _ _=>rfl)) Af)) (Av Be (pv 1) Ac (fun _ _=>rfl))))
   (Ae (Ba (i:=5) sc.nd rfl (Or.inl rfl) (Hk (Ay Db (Av Be (pv 1) Ac (fun _ _=>rfl)) (Fo T.g_ANY_OTHER rfl) (Bd _)) (Am Canother (hr.mono (by decide)) rfl (Aa (Av Be (pv 3) Ac (fun _ _=>rfl)) Af)) (Av Be (pv 1) Ac (fun _ _=>rfl))))
   (Aj (Au (Cj (Aa Ac (Aa (Av Be (pv 1) Ac (fun _ _=>rfl)) (Aa Bi (Aa (pv 5) (Aa (pv 4) (Aa (pv 2) Af)))))))))))),?_⟩
 refine (vE rfl ⟨b,cs,rfl,bw,l6,fun mk ma mb mc md A' B' D' E' H1 s1 hmk hma hmb hmc hmd ndA soA memA ndB soB memB pD mD pE mE _=>?_⟩);refine Gk [some (.ref b),some (.ref t),some (.int cn),some (.ref mk),none,none] rfl ?_;have lA:=Ob l6 ndA memA;have lB:=Ob l6 ndB memB;have ht1:=s1 _ _ ht;have M4:Mks4 cs A' B' D' E':=⟨ndA,soA,memA,ndB,soB,memB,pD,mD,pE,mE⟩;have fin:∀ (ca' th':Str) (H3:Hp),Same H1 H3->othN A' ca ca'->othN B' th th'->Zh (CN (Eh (tC (V.int 0)) (Eh (Tb (Xf K) (Fz 1) (tC (V.int 2))) (Eh (tC (V.str "e")) (Eh (Fz 5) (Eh (Fz 4) (Eh (Fz 2) Uz))))))) { nx:=fun x H'=>Q V.non H',rt:=Q } [some (.ref b),some (.ref t),some (.int cn),some (.ref mk),some (.str ca'),some (.str th')] H3:=fun ca' th' H3 s3 oA oB=>by
  refine (vE rfl (vI rfl rfl (SqT.of (s3 _ _ ht1)) rfl (vE rfl (vE rfl (vE rfl ⟨Ce (by show 6<=1000; decide),fun r nr=>?_⟩)))));exact q r th' ca' _ A' B' D' E' (s1.trans (s3.trans (Ag nr _))) (s1.free (s3.free nr)) M4 oA oB Ab
 have thing:∀ (ca':Str) (H2:Hp),Same H1 H2->othN A' ca ca'->Wl (Ya (HX (C0 (Tb HP (Tb (Xf K) (Fz 1) (tC (V.int 1))) (tC (V.str "")))) (Xi Hg [] E0 (Eh (Tb (Xf K) (Fz 3) (tC (V.int 1))) Uz)) (Tb (Xf K) (Fz 1) (tC (V.int 1)))) (Dw 5)) (Zh (CN (Eh (tC (V.int 0)) (Eh (Tb (Xf K) (Fz 1) (tC (V.int 2))) (Eh (tC (V.str "e")) (Eh (Fz 5) (Eh (Fz 4) (Eh (Fz 2) Uz)))))))) { nx:=fun x H'=>Q V.non H',rt:=Q } [some (.ref b),some (.ref t),some (.int cn),some (.ref mk),some (.str ca'),none] H2:=fun ca' H2 s2 oA=>by
  refine (vE rfl (vI rfl rfl (SqT.of (s2 _ _ ht1)) rfl ⟨rfl,_,rfl,?_⟩));by_cases e:V.str th=V.str ""
  ·refine dT e (vE rfl (vI rfl rfl (SqT.of (s2 _ _ hmk)) rfl ?_))
   exact⟨mb,B',rfl,s2 _ _ hmb,lB,fun n H4 s4 n6 no al=>fin ca' _ H4 (s2.trans s4) oA (.inl ⟨V.str.inj e,n,n6,rfl,no,al⟩)⟩
  ·refine dF e (vE rfl (vI rfl rfl (SqT.of (s2 _ _ ht1)) rfl ?_))
   exact fin ca' th H2 s2 oA (.inr ⟨fun z=>e (congrArg V.str z),rfl⟩)
 refine (vE rfl (vI rfl rfl (SqT.of ht1) rfl ⟨rfl,_,rfl,?_⟩));by_cases e:V.str ca=V.str ""
 ·refine dT e (vE rfl (vI rfl rfl (SqT.of hmk) rfl ?_))
  exact⟨ma,A',rfl,hma,lA,fun n H4 s4 n6 no al=>thing _ H4 s4 (.inl ⟨V.str.inj e,n,n6,rfl,no,al⟩)⟩
 ·refine dF e (vE rfl (vI rfl rfl (SqT.of ht1) rfl ?_))
  exact thing ca H1 (fun _ _ h=>h) (.inr ⟨fun z=>e (congrArg V.str z),rfl⟩)
theorem Xa:Bb ["book", "marks", "cells", "cause", "thing"] ["book"] (An Kc):=by injections
theorem Wu {f:Addr} {fd:zCt} (F:Fun K "cells_of" "cells_of" Kc f fd) (T:Txt K mg) (Cmarks_of:Ct P w K mg base 9 "marks_of" ["book"] (Fv (A8.mk Ad Ai Ah Ak Aq Ax Aw Ap) Al Az)) (Cday_stretches:Ct P w K mg base 1 "day_stretches" ["days"] Yb):FnOk P w K mg base Dv 10 f fd ["book"] (Ua (A8.mk Ad Ai Ah Ak Aq Ax Aw Ap) Al Az):=by
 have sc:=Xa;bv_omega
 ·obtain⟨_,_,rfl,_⟩:=h
  rfl
 obtain⟨b,cs,rfl,bw,l6,wd,q⟩:=h;refine⟨_,(Ae (Ba (i:=1) sc.nd rfl (Or.inl rfl) (Am Cmarks_of (hr.mono (by decide)) rfl (Aa (pv 0) Af)))
   (Ae (Bm (Ay Rc (Ao Fe (Ao Fe (Ao Ca (Bg Bk rfl T.n_len (show zCs _=some (.builtin "len") from rfl) (Aa (Av Be (pv 1) Ac (fun _ _=>rfl)) Af)) Ac) (Ao Ca (Bg Bk rfl T.n_len (show zCs _=some (.builtin "len") from rfl) (Aa (Av Be (pv 1) Ac (fun _ _=>rfl)) Af)) Ac)) (Ao Ca (Bg Bk rfl T.n_len (show zCs _=some (.builtin "len") from rfl) (Aa (Av Be (pv 1) Ac (fun _ _=>rfl)) Af)) Ac)) (Gp T.g_MOST_CELLS rfl) (Bd _))
    (Aj Gj)
    Bc)
   (Ae (Ba (i:=2) sc.nd rfl (Or.inl rfl) (Bq Af))
   (Ae (Dd PassesOwn.never rfl (Bn (Ao Dz (Av Be (pv 1) Ac (fun _ _=>rfl)) (Bq (Aa (Fo T.g_ANY_OTHER rfl) Af)))) (Bh (i:=3) sc.nd rfl (Or.inr rfl))
    (Aj (Dd PassesOwn.never rfl (Bn (Ao Dz (Av Be (pv 1) Ac (fun _ _=>rfl)) (Bq (Aa (Fo T.g_ANY_OTHER rfl) Af)))) (Bh (i:=4) sc.nd rfl (Or.inr rfl))
    (Aj (Fu (Oe PySem.F.plainAttrs_list PySem.F.slot_list_extend PySem.F.type_list_extend Mz (pv 2) (Aa (Da (NC:=["first", "last", "cause", "thing"]) (own:=["first", "last"]) (cs:=["cause", "thing"]) (ix:=[3,4]) rfl (CompScope.of rfl) rfl ⟨⟨rfl,.inl rfl,rfl⟩,⟨⟨rfl,.inl rfl,rfl⟩,trivial⟩⟩ (Bn (Am Cday_stretches (hr.mono (by decide)) rfl (Aa (Av Be (pv 1) Ac (fun _ _=>rfl)) Af))) (fun _ _ _=>(Zu (K:=K) (n:=2) rfl rfl (Et (Bh (i:=0) (show (["first", "last", "cause", "thing"]:List Str).Nodup from by ac_nf) rfl (Or.inl rfl)) (Et (Bh (i:=1) (show (["first", "last", "cause", "thing"]:List Str).Nodup from by ac_nf) rfl (Or.inl rfl)) Ov)))) (fun _ _ _=>Cr) (fun _ _ _=>(Cj (Aa (pv 2) (Aa (pv 3) (Aa (pv 0) (Aa (pv 1) Af))))))) Af)))))))
   (Aj (Au (pv 2))))))),?_⟩
 have sl:=zCr;have one:1<=sizeLine:=by lia
 refine (vE rfl ⟨b,cs,rfl,bw,l6,fun mk ma mb mc md A' B' D' E' H1 s1 hmk hma hmb hmc hmd ndA soA memA ndB soB memB pD memD pE memE _=>?_⟩);refine Gk [some (.ref b),some (.ref mk),none,none,none] rfl ?_;have M4:Mks4 cs A' B' D' E':=⟨ndA,soA,memA,ndB,soB,memB,pD,memD,pE,memE⟩;have en:=wd A' B' D' ndA memA ndB memB pD memD;have lA:=Ob l6 ndA memA;have lB:=Ob l6 ndB memB;have lD:=V1 l6 pD memD;have hm:=SqT.of (K:=K) hmk;have ea:((A'.map V.str).length:Int)=A'.length:=by rw[zAa]
 have eb:((B'.map V.str).length:Int)=B'.length:=by rw[zAa]
 have ed:((D'.map V.int).length:Int)=D'.length:=by rw[zAa]
 have enI:(((A'.map V.str).length:Int)+1)*(((B'.map V.str).length:Int)+1)*(((D'.map V.int).length:Int)+1)=(((A'.length+1)*(B'.length+1)*(D'.length+1):Nat):Int):=by rw[ea,eb,ed]; push_cast; rfl
 have cmR:∀ {x y:Int},0<=y->y<=100->CMul x y:=fun h1 h2=>.inr ⟨by lia,by lia⟩;refine (vE rfl (vI rfl rfl hm rfl ⟨ma,_,rfl,.inl (SqL.of hma),vF rfl rfl (vE rfl (vI rfl rfl hm rfl ⟨mb,_,rfl,.inl (SqL.of hmb),vF rfl rfl (vF rfl rfl ⟨cmR (by lia) (by lia),vE rfl (vI rfl rfl hm rfl ⟨mc,_,rfl,.inl (SqL.of hmc),vF rfl rfl (vF rfl rfl ⟨cmR (by lia) (by lia),vF rfl rfl (vE rfl ?_)⟩)⟩)⟩)⟩))⟩));refine dF ?_ ?_
 ·show ¬ (120:Int)<(((A'.map V.str).length:Int)+1)*(((B'.map V.str).length:Int)+1)*(((D'.map V.int).length:Int)+1)
  rw[enI]
  lia
 refine⟨zAC _,fun cl ncl=>?_⟩;refine Gk [some (.ref b),some (.ref mk),some (.ref cl),none,none] rfl ?_;have h2:upd H1 cl (.lst []) cl=some (.lst []):=Ab;have k0:KB cl H1 (upd H1 cl (.lst [])):=fun x o e n=>by rw[Ar n]; exact e
 generalize upd H1 cl (.lst [])=H2 at h2 k0;have kn:∀ {x o},H1 x=some o->x≠cl:=fun e=>At e ncl;refine (vE rfl (vI rfl rfl (SqT.of (k0 _ _ hmk (kn hmk))) rfl ⟨one,fun o1 n1=>?_⟩));refine⟨ma,o1,_,_,rfl,rfl,Ag n1 _ _ _ (k0 _ _ hma (kn hma)),Ab,by rw[zAa]; show _+1<=_; lia,fun a na=>?_⟩;obtain⟨s3,ha⟩:=Gb (xs:=A'.map V.str) n1 na;have acl:a≠cl:=fun e=>by
  have h:=Ag n1 (.lst [.str ""]) _ _ h2;rw[e,h] at na;cases na
 have h3:=s3 _ _ h2;have k3:KB cl H1 _:=k0.same s3;generalize upd (upd H2 o1 (.lst [.str ""])) a (.lst (A'.map V.str++[.str ""]))=H3 at s3 ha h3 k3;have xA:A'.map V.str++[V.str ""]=(A'++[("" : Str)]).map V.str:=by rw[zAn]; rfl
 have xB:B'.map V.str++[V.str ""]=(B'++[("" : Str)]).map V.str:=by rw[zAn]; rfl
 have lA1:(A'++[("" : Str)]).length=A'.length+1:=by rw[zAe]; rfl
 have lB1:(B'++[("" : Str)]).length=B'.length+1:=by rw[zAe]; rfl
 rw[xA] at ha;refine⟨a,rfl,⟨_,SqL.of ha⟩,?_⟩;refine Cm (K:=K) (a:=a) (xs:=(A'++[("" : Str)]).map V.str) (fun i σ H4=>(∃ o3 o4,σ=[some (.ref b),some (.ref mk),some (.ref cl),o3,o4])/\KB cl H3 H4/\∃ xs,H4 cl=some (.lst xs)/\Tps H4 xs (Cu B' D' ((A'++[("" : Str)]).take i))) ⟨⟨none,none,rfl⟩,fun _ _ e _=>e,[],h3,trivial⟩ (fun i σ H4 _ hh=>SqL.of (hh.2.1 _ _ ha acl)) ?_ ?_
 ·rintro i x σ H4 hi ⟨⟨o3,o4,rfl⟩,k4,xs4,h4,t4⟩
  rw[zAl] at hi;obtain⟨ca,hca,rfl⟩:=zAy.mp hi;refine Gk [some (.ref b),some (.ref mk),some (.ref cl),some (.str ca),o4] rfl ?_;have k14:KB cl H1 H4:=fun x o e n=>k4 _ _ (k3 _ _ e n) n;refine (vE rfl (vI rfl rfl (SqT.of (k14 _ _ hmk (kn hmk))) rfl ⟨one,fun o1 n1=>?_⟩));refine⟨mb,o1,_,_,rfl,rfl,Ag n1 _ _ _ (k14 _ _ hmb (kn hmb)),Ab,by rw[zAa]; show _+1<=_; lia,fun a2 na2=>?_⟩;obtain⟨s5,ha2⟩:=Gb (xs:=B'.map V.str) n1 na2;have acl2:a2≠cl:=fun e=>by
   have h:=Ag n1 (.lst [.str ""]) _ _ h4;rw[e,h] at na2;cases na2
  have h5:=s5 _ _ h4;have t5:=t4.same s5;have k5:KB cl H3 _:=k4.same s5;generalize upd (upd H4 o1 (.lst [.str ""])) a2 (.lst (B'.map V.str++[.str ""]))=H5 at s5 ha2 h5 k5 t5;rw[xB] at ha2;refine⟨a2,rfl,⟨_,SqL.of ha2⟩,?_⟩;refine Cm (K:=K) (a:=a2) (xs:=(B'++[("" : Str)]).map V.str) (fun j σ H6=>(∃ o4,σ=[some (.ref b),some (.ref mk),some (.ref cl),some (.str ca),o4])/\KB cl H5 H6/\∃ xs,H6 cl=some (.lst xs)/\Tps H6 xs (Cu B' D' ((A'++[("" : Str)]).take i)++Fi ca D' ((B'++[("" : Str)]).take j))) ⟨⟨o4,rfl⟩,fun _ _ e _=>e,xs4,h5,by rw[zAY]; unfold Fi; rw[zBr,List.flatten_nil,zAT]; exact t5⟩ (fun i σ H6 _ hh=>SqL.of (hh.2.1 _ _ ha2 acl2)) ?_ ?_
  ·rintro j x σ H6 hj ⟨⟨o5,rfl⟩,k6,xs6,h6,t6⟩
   rw[zAl] at hj;obtain⟨th,hth,rfl⟩:=zAy.mp hj;refine Gk [some (.ref b),some (.ref mk),some (.ref cl),some (.str ca),some (.str th)] rfl ?_;have k16:KB cl H1 H6:=fun x o e n=>k6 _ _ (k5 _ _ (k3 _ _ e n) n) n;refine (vE rfl ⟨.inl ⟨rfl,_,SqL.of h6⟩,vE rfl (vI rfl rfl (SqT.of (k16 _ _ hmk (kn hmk))) rfl ⟨mc,D',rfl,k16 _ _ hmc (kn hmc),lD,fun r us H7 nr s7 hr7 u7=>?_⟩)⟩);refine⟨r,rfl,⟨_,SqL.of hr7⟩,fun p np=>?_⟩;have lm:us.length=D'.length+1:=by rw[u7.len,zAa,Dp]
   refine Px (K:=K) (a:=r) (xs:=us) (fun i ys H8=>Tps H8 ys (((Ck D').take i).map (Cf ca th))/\H8 p=some (.lst ys)/\Same H7 H8) ⟨by rw[zAY]; trivial,Ab,Ag np _⟩
    (fun i ys H8 _ ⟨t,h8,s8⟩=>⟨h8,by rw[t.len,zAa,zAB]; lia,SqL.of (s8 _ _ hr7)⟩) (by rw[lm]; lia) (fun i x ys H8 hi ⟨t8,h8,s8⟩=>?_) (fun ys H8 ⟨t8,h8,s8⟩=>?_)
   ·obtain⟨t,rr,hrr,rfl,ht7⟩:=u7.get hi
    rw[zAl] at hrr;obtain⟨pr,hpr,rfl⟩:=zAy.mp hrr;refine⟨t,_,_,rfl,SqT.of (s8 _ _ ht7),?_⟩;refine (vE rfl (vE rfl (vE rfl (vE rfl ⟨Ce (by show 4<=1000; decide),fun t' nt'=>?_⟩))));have s9:=Ag nt' (.tup (Cf ca th pr));have tp:t'≠p:=fun e=>by rw[e,h8] at nt'; cases nt'
    refine⟨s9 _ _ h8,rfl,?_,Ab,Bv np (s8.trans s9)⟩;rw[Cd hpr,zAn];exact ((t8.same s9).lst (s9 _ _ h8)).app ⟨⟨t',rfl,by rw[Ar tp]; exact Ab⟩,trivial⟩
   ·have l8:ys.length=D'.length+1:=by rw[t8.len,zAa,zAB,lm,Dp]; lia
    rw[lm,<- Dp D',zAz] at t8;have s68:=s7.trans s8;have l6x:xs6.length<=61*61*61+61*61:=by
     rw[t6.len,zAe,Gf,Kq,zAB,zAB,lA1,lB1];have h1:min i (A'.length+1)*((B'.length+1)*(D'.length+1))<=61*(61*61):=zBv (by lia) (zBv (by lia) (by lia));have h2:min j (B'.length+1)*(D'.length+1)<=61*61:=zBv (by lia) (by lia)
     lia
    refine⟨cl,p,_,_,rfl,rfl,s68 _ _ h6,h8,by lia,⟨_,rfl⟩,fun x o e n=>?_,_,Ab,?_⟩
    ·rw[Ar n]
     exact s68 _ _ (k6 _ _ e n)
    ·rw[Cd hth,Wh,<- zBM]
     exact ((t6.same s68).app t8).lst (s68 _ _ h6)
  ·rintro σ H6 ⟨⟨o5,rfl⟩,k6,xs6,h6,t6⟩
   rw[zAa,zAz] at t6;refine⟨⟨_,_,rfl⟩,fun x o e n=>k6 _ _ (k5 _ _ e n) n,xs6,h6,?_⟩;rw[Cd hca,Xl];exact t6
 ·rintro σ H4 ⟨⟨o3,o4,rfl⟩,k4,xs4,h4,t4⟩
  rw[zAa,zAz] at t4;refine (vE rfl ?_);exact q cl xs4 H4 A' B' D' E' (s1.trans fun x o e=>k4 _ _ (k3 _ _ e (kn e)) (kn e)) (s1.free ncl) M4 h4 t4
end
def X2 (i:Int):Nat:=97+(i%26).toNat
theorem Qv (i:Int):Fd (X2 i):=by
 unfold Fd X2;have h0:0<=i%26:=Int.emod_nonneg _ (by decide);have h1:i%26<26:=Int.emod_lt_of_pos _ (by decide)
 lia
theorem W5 (i:Int):Nt (Str.ofString "abcdefghijklmnopqrstuvwxyz").cps.toList (i%26)=some (X2 i):=by
 have e:(Str.ofString "abcdefghijklmnopqrstuvwxyz").cps.toList=(zAM 26).map (97 + ·):=by ac_nf
 have h0:0<=i%26:=Int.emod_nonneg _ (by decide);have h1:i%26<26:=Int.emod_lt_of_pos _ (by decide);obtain⟨k,ek⟩:=Int.eq_ofNat_of_zero_le h0;rw[e];unfold X2;rw[ek];refine Fq ?_;rw[zAl,zBZ (by lia)];rfl
theorem Zs:(Str.ofString "abcdefghijklmnopqrstuvwxyz").length<=sizeLine:=by
 have e:(Str.ofString "abcdefghijklmnopqrstuvwxyz").length=26:=by ac_nf
 rw[e];exact Ce (by decide)
theorem Wb {i:Nat} {v:Int} {nx:St->Hp->Prop} {σ:St} {H:Hp} (lo hi:Int) (h0:lo<=v/\v<=hi) (h:∀ x:Int,lo<=x->x<=hi->Dw i (.int x) σ H nx):Dw i (.int v) σ H nx:=h v h0.1 h0.2
theorem md {a b:Int} (h:0<b):0<=a%b/\a%b<=b-1:=⟨Int.emod_nonneg _ (by lia),by have:=Int.emod_lt_of_pos a h; lia⟩
def P2:List Nat:=[115,101,108,102]
theorem Zv:Str.ofString "self" = tx P2:=by ac_nf
theorem GO:Str.ofString "q" = tx [113]:=by ac_nf
theorem AX {l m:List Nat} (h:tx l=tx m):l=m:=by
 have:=congrArg (fun z=>z.cps.toList) h
 simpa [tx] using this
structure GG (ns:List Str):Prop where
 hi:ns.length<=8
 nd:ns.Nodup
 ok:∀ z∈ns,Lp (.str z)=true/\z.length<=8/\z ≠ "self"
theorem R7 (g:Nat->List Nat) {k:Nat} (k8:k<=8) (nm:∀ i,i<k->Ql (g i)) (ns:∀ i,i<k->g i≠P2) (inj:∀ i j,i<k->j<k->g i=g j->i=j):GG ((zAM k).map fun i=>tx (g i)):=by
 refine⟨by rw[zAa,zAP]; exact k8,?_,fun z hz=>?_⟩
 ·rw[zAJ,zBo]
  refine List.Pairwise.imp_of_mem (R:=fun a b=>a≠b) (fun {i j} hi hj n e=>n ?_) (zAJ.mp List.nodup_range);exact inj i j (zBz.mp hi) (zBz.mp hj) (AX e)
 ·obtain⟨i,hi,rfl⟩:=zAA.mp hz
  have hi':=zBz.mp hi;have n:=nm i hi';refine⟨decide_eq_true n,by rw[Ij]; exact n.1.2,fun h=>?_⟩;have h':tx (g i)=Str.ofString "self" := h;rw[Zv] at h';exact ns i hi' (AX h')
def Yv (c k:Nat):List Nat:=zAD (k+1) c
theorem Q5 (c m:Nat):(zAD m [c]).flatten=zAD m c:=by
 induction m with
 | zero=>rfl
 | succ m ih=>rw[zBP,zBi,ih,zBP]; rfl
theorem C2 {c k:Nat} (hc:Fd c) (k8:k<=8):GG ((zAM k).map fun i=>tx (Yv c i)):=by
 refine R7 (Yv c) k8 (fun i hi=>⟨by unfold Yv; rw[zAS]; lia,fun d hd=>?_⟩) (fun i hi z=>?_) (fun i j hi hj e=>?_)
 ·rw[zCi hd]
  exact hc
 ·unfold Yv at z
  have h1:(115:Nat)∈zAD (i+1) c:=by rw[z]; decide
  have h2:(101:Nat)∈zAD (i+1) c:=by rw[z]; decide
  have e1:=zCi h1;have e2:=zCi h2
  lia
 ·have:=congrArg List.length e
  unfold Yv at this;rw[zAS,zAS] at this
  lia
def EJ (m:Int) (a k j:Nat):Nat:=X2 (m+(j:Int)*j+(k:Int)*(if j=a then 1 else 0))
def W9 (m:Int) (a n k:Nat):List Nat:=(zAM n).map (EJ m a k)
theorem X4 (m:Int) (a n k:Nat):(W9 m a n k).length=n:=by unfold W9; rw[zAa,zAP]
theorem Y4 {m:Int} {a n k:Nat} (ha:a<n) (n8:n<=8) (k8:k<=8) (h:∀ i,i<k->W9 m a n i≠P2):GG ((zAM k).map fun i=>tx (W9 m a n i)):=by
 refine R7 (W9 m a n) k8 (fun i hi=>⟨by rw[X4]; lia,fun c hc=>?_⟩) h (fun i j hi hj e=>?_)
 ·unfold W9 at hc
  obtain⟨j,_,rfl⟩:=zAA.mp hc;exact Qv _
 ·have e:=congrArg (fun l=>l[a]?) e
  unfold W9 at e;simp only [zAl,zBZ ha,zCd,Option.some.injEq] at e;unfold EJ X2 at e;simp only [if_true] at e;generalize m+(a:Int)*a=v at e;have a0:0<=(v+(i:Int)*1)%26:=Int.emod_nonneg _ (by decide);have b0:0<=(v+(j:Int)*1)%26:=Int.emod_nonneg _ (by decide)
  lia
theorem in_strs {z:Str} {l:List Str}:Pn (.str z) (l.map V.str)=true↔z∈l:=by
 unfold Pn;rw[List.any_map,List.any_eq_true];constructor
 ·rintro ⟨y,hy,e⟩
  have e':Sy (.str y) (.str z)=true:=e;have:y=z:=by simpa [Sy] using e'
  rw[<- this];exact hy
 ·intro h
  exact⟨z,h,by show Sy (.str z) (.str z)=true; simp [Sy]⟩
def Tg:Sp:=fun vs H Q _=>∃ c k:Int,vs=[.int c,.int k]/\0<=c/\0<=k/\k<=8/\∀ r ns H',Same H H'->H r=none->H' r=some (.lst (ns.map V.str))->GG ns->(ns.length:Int)=k->Q (.ref r) H'
section
seal L2.PS L2.PSs L2.PE L2.PA
variable {P:Program} {w:World} {K:zAb} {mg:Str->Option Value} {base:Heap}
theorem Rq:Bb ["_law_cell_here", "_law_many", "_law_letters", "_law_size", "_law_at", "_law_first", "_law_names_here", "_law_k", "_law_name", "_law_j"] ["_law_cell_here", "_law_many"] (An Hq):=by injections
theorem Rf {f:Addr} {fd:zCt} (F:Fun K "_law_names" "_law_names" Hq f fd) (T:Txt K mg):FnOk P w K mg base Dv 1 f fd ["_law_cell_here", "_law_many"] Tg:=by
 have sc:=Rq;bv_omega
 ·obtain⟨_,_,rfl,_⟩:=h
  rfl
 obtain⟨c,k,rfl,c0,k1,k8,q⟩:=h;refine⟨_,(Ae (Ba (i:=2) sc.nd rfl (Or.inr rfl) Bi)
   (Ae (Ba (i:=3) sc.nd rfl (Or.inl rfl) (Ao Ca Ac (Ao Br (pv 0) Ac)))
   (Ae (Ba (i:=4) sc.nd rfl (Or.inl rfl) (Ao Br (Ao By (pv 0) Ac) (pv 3)))
   (Ae (Ba (i:=5) sc.nd rfl (Or.inr rfl) (Ao By (pv 0) Ac))
   (Ae (Bm (Ay Db (Ao Br (Ao By (pv 0) Ac) Ac) Ac (Bd _))
    (Aj (Au (Da (NC:=["_law_k", "_law_letters", "_law_first"]) (own:=["_law_k"]) (cs:=["_law_letters", "_law_first"]) (ix:=[2,5]) rfl (CompScope.of rfl) rfl ⟨⟨rfl,.inl rfl,rfl⟩,⟨⟨rfl,.inl rfl,rfl⟩,trivial⟩⟩ (Di rfl T.n_range (Aa (pv 1) Af)) (fun _ _ _=>(Bh (i:=0) (show (["_law_k", "_law_letters", "_law_first"]:List Str).Nodup from by ac_nf) rfl (Or.inl rfl))) (fun _ _ _=>Cr) (fun _ _ _=>(Ao Rb (Av Pz (pv 1) (Ao Br (pv 2) Ac) (fun _ _=>rfl)) (Ao Ca (pv 0) Ac))))))
    Bc)
   (Ae (Ba (i:=6) sc.nd rfl (Or.inl rfl) (Bq Af))
   (Ae (Dd PassesOwn.never rfl (Di rfl T.n_range (Aa (pv 1) Af)) (Bh (i:=7) sc.nd rfl (Or.inl rfl))
    (Ae (Ba (i:=8) sc.nd rfl (Or.inl rfl) Bi)
   (Ae (Dd PassesOwn.never rfl (Di rfl T.n_range (Aa (pv 3) Af)) (Bh (i:=9) sc.nd rfl (Or.inl rfl))
    (Aj (Ba (i:=8) sc.nd rfl (Or.inl rfl) (Ao Ke (pv 8) (Av Pz (pv 2) (Ao Br (Ao Ca (Ao Ca (pv 5) (Ao Fe (pv 9) (pv 9))) (Ao Fe (pv 7) (Ds E8 rfl T.n_int (show zCs _=some (.type "int") from rfl) (Aa (Dg Db (pv 9) (pv 4) (Bd _)) Af)))) Ac) (fun _ _=>rfl))))))
   (Aj (Fu (Oe PySem.F.plainAttrs_list PySem.F.slot_list_append PySem.F.type_list_append Fx (pv 6) (Aa (pv 8) Af)))))))
   (Ae (Bm (Ay Hh Bi (pv 6) rfl)
    (Aj (Au (Da (NC:=["_law_k"]) (own:=["_law_k"]) (cs:=[]) (ix:=[]) rfl (CompScope.of rfl) rfl trivial (Di rfl T.n_range (Aa (pv 1) Af)) (fun _ _ _=>(Bh (i:=0) (show (["_law_k"]:List Str).Nodup from by ac_nf) rfl (Or.inl rfl))) (fun _ _ _=>Cr) (fun _ _ _=>(Ao Rb Bi (Ao Ca (pv 0) Ac))))))
    Bc)
   (Aj (Au (pv 6))))))))))),?_⟩
 refine Oo fun N eN=>?_;have m0:0<=c%8:=Int.emod_nonneg _ (by decide);have m8:c%8<8:=Int.emod_lt_of_pos _ (by decide);subst eN;refine (vE rfl (vF rfl rfl ⟨(by show (0:Int)<8; decide),_,_,rfl,rfl,?_⟩));refine Wb 1 8 ⟨by lia,by lia⟩ fun sz z1 z8=>?_;obtain⟨n,rfl⟩:=Int.eq_ofNat_of_zero_le (show 0<=sz by lia);refine (vE rfl (vF rfl rfl ⟨⟨by decide,by decide⟩,_,rfl,vF rfl rfl ⟨(by show (0:Int)<(n:Int); lia),?_⟩⟩));refine Wb 0 ((n:Int)-1) (md (by lia)) fun at' at0 at1=>?_;obtain⟨a,rfl⟩:=Int.eq_ofNat_of_zero_le at0;have ha:a<n:=by lia
 refine (vE rfl (vF rfl rfl ⟨⟨by decide,by decide⟩,?_⟩));refine ED [some (.int c),some (.int k),some (.str "abcdefghijklmnopqrstuvwxyz"),some (.int n),some (.int a),some (.int (c/320)),none,none,none,none] rfl ?_; refine Oo fun N eN=>?_;generalize c/320=m;refine Lg eN fun N eN=>?_;refine (vE rfl (vF rfl rfl ⟨⟨by decide,by decide⟩,_,_,rfl,rfl,(by show (0:Int)<5; decide),rfl,vE rfl ?_⟩));by_cases c5:c/64%5=1
 ·-- one Fd,more and more often
  refine dT (congrArg V.int c5) (vE rfl (vE rfl ⟨by lia,by lia,fun r nr=>?_⟩));refine Eo (lo:=0) (n:=k.toNat) (fun i ys H2=>ys=((zAM i).map fun i=>tx (Yv (X2 m) i)).map V.str/\H2 r=some (.lst ys)/\Same H H2) ⟨rfl,Ab,Ag nr _⟩
   (fun i ys H2 _ ⟨e,h1,_⟩=>⟨h1,by rw[e,zAa,zAa,zAP]; exact zAg _⟩) (by rw[zCr]; lia) (fun i ys H2 hi ⟨e,h1,s1⟩=>?_) (fun ys H2 ⟨e,h1,s1⟩=>?_)
  ·refine (vE rfl (vE rfl (vF rfl rfl ⟨(by show (0:Int)<26; decide),_,_,_,rfl,rfl,Zs,W5 _,_,rfl,vF rfl rfl ⟨[X2 m],_,rfl,rfl,by lia,by lia,(show 1<=1000 from by decide),h1,rfl,?_,Ab,fun x o z=>?_⟩⟩)))
   ·rw[e,Q5,show (0+(i:Int)+1).toNat=i+1 by lia,List.range_succ,zAn,zAn]
    rfl
   ·rw[Ar (At z nr)]
    exact s1 x o z
  subst e;exact q r _ H2 s1 nr h1 (C2 (Qv m) (by lia)) (by rw[zAa,zAP]; lia)
 refine dF (fun z=>c5 (V.int.inj z)) ?_;refine Lg eN fun N eN=>?_;refine⟨zAC _,fun r nr=>?_⟩;refine Lg eN fun N eN=>?_;have s1:=Ag nr (.lst []);refine (vE rfl (vE rfl ⟨by lia,by lia,?_⟩));refine Jq (lo:=0) (n:=k.toNat)
  (fun i σ H3=>(∃ o7 o8 o9:Option V,σ=[some (.int c),some (.int k),some (.str "abcdefghijklmnopqrstuvwxyz"),some (.int n),some (.int a),some (.int m),some (.ref r),o7,o8,o9])/\H3 r=some (.lst (((zAM i).map fun i=>tx (W9 m a n i)).map V.str))/\Same H H3)
  ⟨⟨none,none,none,rfl⟩,Ab,s1⟩ ?_ ?_
 ·rintro i σ H3 hi ⟨⟨o7,o8,o9,rfl⟩,h3,s3⟩
  have i8:i<8:=by lia
  rw[show (0+(i:Int))=(i:Int) by lia];refine (vE rfl (vE rfl ⟨by lia,by lia,?_⟩));refine Jq (lo:=0) (n:=(n:Int).toNat) (fun j σ H4=>(∃ o9,σ=[some (.int c),some (.int k),some (.str "abcdefghijklmnopqrstuvwxyz"),some (.int n),some (.int a),some (.int m),some (.ref r),some (.int i),some (.str (tx ((zAM j).map (EJ m a i)))),o9])/\H4=H3) ⟨⟨o9,rfl⟩,rfl⟩ ?_ ?_
  ·rintro j σ H4 hj ⟨⟨o9',rfl⟩,rfl⟩
   have hj':j<n:=by lia
   rw[show (0+(j:Int))=(j:Int) by lia];refine (vE rfl (vE rfl (vE rfl (vE rfl (vE rfl (vF rfl rfl ⟨.inl ⟨by lia,by lia⟩,vF rfl rfl (vE rfl (vE rfl (vE rfl ⟨rfl,.inr (vE rfl (vF rfl rfl ⟨.inl ⟨by lia,by lia⟩,vF rfl rfl (vF rfl rfl ⟨(by show (0:Int)<26; decide),_,_,_,rfl,rfl,Zs,W5 _,_,_,rfl,rfl,?_,⟨some (.int j),?_⟩,rfl⟩)⟩))⟩)))⟩))))))
   ·rw[Ij,zAa,zAP,zCr]
    show j+1<=_
    lia
   ·have e1:(if decide (V.int (j:Int)=V.int (a:Int))=true then (1:Int) else 0)=if j=a then 1 else 0:=by
     by_cases z:j=a
     ·rw[if_pos z,if_pos (decide_eq_true (by rw[z]))]
     ·rw[if_neg z,if_neg (fun y=>z (by have:=V.int.inj (of_decide_eq_true y); lia))]
    have e2:tx ((zAM j).map (EJ m a i))++(⟨#[X2 (m+(j:Int)*j+(i:Int)*(if decide (V.int (j:Int)=V.int (a:Int))=true then (1:Int) else 0))]⟩:Str)=tx ((zAM (j+1)).map (EJ m a i)):=by
     rw[e1,List.range_succ,zAn];exact M8 _ [_]
    exact congrArg (fun z=>[some (V.int c),some (V.int k),some (V.str "abcdefghijklmnopqrstuvwxyz"),some (V.int n),some (V.int a),some (V.int m),some (V.ref r),some (V.int i),some (V.str z),some (V.int j)]) e2
  ·rintro σ H4 ⟨⟨o9',rfl⟩,rfl⟩
   have el:(zAM (n:Int).toNat).map (EJ m a i)=W9 m a n i:=by rw[Int.toNat_natCast]; rfl
   rw[el];refine (vE rfl ⟨.inl ⟨rfl,_,SqL.of h3⟩,vE rfl ⟨r,_,_,rfl,rfl,h3,?_,⟨⟨_,_,_,rfl⟩,?_,fun x o z=>?_⟩⟩⟩)
   ·rw[zAa,zAa,zAP,zCr]
    lia
   ·rw[Ab,List.range_succ,zAn,zAn]
    rfl
   ·rw[Ar (At z nr)]
    exact s3 x o z
 ·rintro σ H3 ⟨⟨o7,o8,o9,rfl⟩,h3,s3⟩
  refine Lg eN fun N eN=>?_;refine (vE rfl ⟨r,_,rfl,.inl (SqL.of h3),rfl,Cy _,_,rfl,?_⟩);by_cases cs:(Str.ofString "self")∈(zAM k.toNat).map fun i=>tx (W9 m a n i)
  ·refine bT (in_strs.mpr cs) (vE rfl (vE rfl ⟨by lia,by lia,fun r2 nr2=>?_⟩))
   refine Eo (lo:=0) (n:=k.toNat) (fun i ys H4=>ys=((zAM i).map fun i=>tx (Yv 113 i)).map V.str/\H4 r2=some (.lst ys)/\Same H3 H4) ⟨rfl,Ab,Ag nr2 _⟩
    (fun i ys H4 _ ⟨e,h1,_⟩=>⟨h1,by rw[e,zAa,zAa,zAP]; exact zAg _⟩) (by rw[zCr]; lia) (fun i ys H4 hi ⟨e,h1,s4⟩=>?_) (fun ys H4 ⟨e,h1,s4⟩=>?_)
   ·refine (vE rfl (vF rfl rfl ⟨[113],_,congrArg V.str GO,rfl,by lia,by lia,(show 1<=1000 from by decide),h1,rfl,?_,Ab,fun x o z=>?_⟩))
    ·rw[e,Q5,show (0+(i:Int)+1).toNat=i+1 by lia,List.range_succ,zAn,zAn]
     rfl
    ·rw[Ar (At z nr2)]
     exact s4 x o z
   subst e;exact q r2 _ H4 (s3.trans s4) (s3.free nr2) h1 (C2 (by unfold Fd; decide) (by lia)) (by rw[zAa,zAP]; lia)
  ·subst eN
   refine bF (Bool.eq_false_iff.mpr fun z=>cs (in_strs.mp z)) (vE rfl ?_);subst eN;refine q r _ H3 s3 nr h3 (Y4 ha (by lia) (by lia) fun i hi e=>cs ?_) (by rw[zAa,zAP]; lia);refine zAA.mpr ⟨i,zBz.mpr hi,?_⟩;rw[e,<- Zv]
end
def La:Sp:=fun vs H Q _=>∃ c:Int,vs=[.int c]/\∀ r:Int,0<=r->r<=2147483646->Q (.int r) H
section
variable {P:Program} {w:World} {K:zAb} {mg:Str->Option Value} {base:Heap}
theorem Qx:Bb ["_law_cell_here"] ["_law_cell_here"] (An Gw):=by injections
theorem Qk {f:Addr} {fd:zCt} (F:Fun K "_law_spread" "_law_spread" Gw f fd) (T:Txt K mg):FnOk P w K mg base Dv 1 f fd ["_law_cell_here"] La:=by
 have sc:=Qx;bv_omega
 ·obtain⟨_,rfl,_⟩:=h
  rfl
 obtain⟨c,rfl,q⟩:=h;refine⟨_,(Aj (Au (Ao Br (Ao Fe (pv 0) Ac) Ac))),?_⟩;refine (vE rfl (vF rfl rfl ⟨.inr ⟨by decide,by decide⟩,vF rfl rfl ⟨(by show (0:Int)<2147483647; decide),?_⟩⟩));have b:=md (a:=c*48271) (b:=2147483647) (by decide);exact q _ b.1 (by have:=b.2; lia)
end
def Qy (u:Int):Prop:=1<=u/\u<=10000000019
def N0:Sp:=fun vs H Q _=>∃ d u:Int,vs=[.int d,.int u]/\0<=d/\Qy u/\∀ m:Int,0<=m->m<=120000000230->Q (.int m) H
def Yz (K:zAb):Sp:=fun vs H Q _=>∃ a ns,vs=[.ref a]/\SqL K H a (List.map V.int ns)/\ns.length<=63/\∀ u H',Same H H'->Qy u->Q (.int u) H'
theorem HM:(10:Int)^(10:Int).toNat=10000000000:=by ac_nf
section
seal L2.PS L2.PSs L2.PE L2.PA
variable {P:Program} {w:World} {K:zAb} {mg:Str->Option Value} {base:Heap}
theorem Qf:Bb ["_law_digit", "_law_unit_here"] ["_law_digit", "_law_unit_here"] (An Gq):=by injections
theorem Pg {f:Addr} {fd:zCt} (F:Fun K "_law_amount" "_law_amount" Gq f fd) (T:Txt K mg):FnOk P w K mg base Dv 1 f fd ["_law_digit", "_law_unit_here"] N0:=by
 have sc:=Qf;bv_omega
 ·obtain⟨_,_,rfl,_⟩:=h
  rfl
 obtain⟨d,u,rfl,d0,⟨u1,u2⟩,q⟩:=h;refine⟨_,(Aj (Au (Ao Ca (Ao Fe (Ao Br (pv 0) Ac) (pv 1)) (Ao Br (Ao By (pv 0) Ac) Ac)))),?_⟩;refine (vE rfl (vF rfl rfl ⟨(by show (0:Int)<13; decide),_,rfl,vF rfl rfl ⟨.inr ⟨by lia,by lia⟩,vE rfl (vF rfl rfl ⟨⟨by decide,by decide⟩,_,_,rfl,rfl,(by show (0:Int)<3; decide),_,_,rfl,rfl,?_⟩)⟩⟩));have m1:=md (a:=d) (b:=13) (by decide);have m2:=md (a:=d/13) (b:=3) (by decide);have p0:0<=d%13*u:=Int.mul_nonneg m1.1 (by lia);have p1:d%13*u<=12*10000000019:=Int.mul_le_mul (by lia) u2 (by lia) (by decide);exact q _ (by lia) (by lia)
theorem Ux:Bb ["_law_script"] ["_law_script"] (An Je):=by injections
theorem Uv {f:Addr} {fd:zCt} (F:Fun K "_law_unit" "_law_unit" Je f fd) (T:Txt K mg) (C_law_cell:Ct P w K mg base 1 "_law_cell" ["_law_script", "_law_k"] (Nj K)) (C_law_spread:Ct P w K mg base 1 "_law_spread" ["_law_cell_here"] La):FnOk P w K mg base Dv 2 f fd ["_law_script"] (Yz K):=by
 have sc:=Ux;bv_omega
 ·obtain⟨_,_,rfl,_⟩:=h
  rfl
 obtain⟨a,ns,rfl,ha,l63,q⟩:=h;refine⟨_,(Aj (Au (Av Bu (Bq (Aa Ac (Aa Ac (Aa Ac (Aa Ac (Aa (Ao Ca (Ao Hw Ac Ac) Ac) Af)))))) (Ao Br (Am C_law_spread (hr.mono (by decide)) rfl (Aa (Am C_law_cell (hr.mono (by decide)) rfl (Aa (pv 0) (Aa Ac Af))) Af)) Ac) (fun _ _=>rfl)))),?_⟩;refine (vF rfl rfl ⟨⟨by decide,by decide,by decide⟩,_,_,rfl,rfl,Ce (by show 5<=1000; decide),fun l nl=>?_⟩);have s1:=Ag nl (.lst [V.int 1,.int 1,.int 97,.int 1000,.int ((10:Int)^(10:Int).toNat+19)]);refine (vE rfl (x3 a ns 0 (c5 rfl (s1.seq ha) (by lia) l63 (vE rfl (fun r r0 r1=>(vF rfl rfl ⟨(by show (0:Int)<5; decide),?_⟩))))));have m:=md (a:=r) (b:=5) (by decide);have five:r%5=0\/r%5=1\/r%5=2\/r%5=3\/r%5=4:=by lia
 obtain⟨u,hu,uo⟩:∃ u:Int,Nt [V.int 1,.int 1,.int 97,.int 1000,.int ((10:Int)^(10:Int).toNat+19)] (r%5)=some (.int u)/\Qy u:=by
  rcases five with e | e | e | e | e <;> rw[e]
  ·exact⟨1,rfl,by decide,by decide⟩
  ·exact⟨1,rfl,by decide,by decide⟩
  ·exact⟨97,rfl,by decide,by decide⟩
  ·exact⟨1000,rfl,by decide,by decide⟩
  ·exact⟨(10:Int)^(10:Int).toNat+19,rfl,by rw[HM]; decide,by rw[HM]; decide⟩
 exact (vI rfl rfl (SqL.of Ab) hu (q u _ s1 uo))
def Rv (n:Str):Prop:=∃ l,n=tx l/\Ql l
def Os:Co->Prop
 | .alw=>True
 | .cau n=>Rv n
 | .thi n=>Rv n
 | .day a b=>0<=a/\a<=b/\b<=1000000
 | .ovr m=>0<=m/\m<=999999999999
theorem at0 {α:Type} (x:α) (xs:List α):Nt (x::xs) 0=some x:=Fq (j:=0) rfl
theorem Vj {H H':Hp} {p:Addr} {o:HO} (h:H p=none) (s:Same H H'):Same H (upd H' p o):=fun b u e=>by rw[Ar (At e h)]; exact s _ _ e
theorem Py {H:Hp} {y d:Addr} {o1 o2:HO} (hy:H y=none) (hd:H d=none):Same H (upd (upd H d o1) y o2):=fun b o e=>by rw[Ar (At e hy),Ar (At e hd)]; exact e
theorem Gd {H:Hp} {y d:Addr} {o1 o2 o3:HO} (hy:H y=none) (hd:H d=none):Same H (upd (upd (upd H d o1) y o2) y o3):=fun b o e=>by rw[Ar (At e hy),Ar (At e hy),Ar (At e hd)]; exact e
def Off (p:Addr) (H:Hp):Hp:=fun b=>if b=p then none else H b
theorem Off.at {p b:Addr} {H:Hp} {o:HO} (h:Off p H b=some o):b≠p/\H b=some o:=by
 unfold Off at h;by_cases e:b=p
 ·rw[if_pos e] at h; cases h
 ·rw[if_neg e] at h; exact⟨e,h⟩
theorem Off.of {p b:Addr} {H:Hp} {o:HO} (n:b≠p) (h:H b=some o):Off p H b=some o:=by
 unfold Off;rw[if_neg n]; exact h
def W8 (t:Dx):Prop:=(Bf t).length<=3/\((∃ (n1 n2:Str) (k:Int),n1 ≠ ""/\n2 ≠ ""/\∀ m∈Bf t,m=((("cause" : Str),V.str n1):Gy)\/m=((("thing" : Str),V.str n2):Gy)\/m=((("cents" : Str),V.int k):Gy))\/∃ a b:Int,∀ m∈Bf t,m=((("day" : Str),V.int a):Gy)\/m=((("day" : Str),V.int b):Gy))
def Yw:Sp:=fun vs H Q _=>∃ c u:Int,∃ th ca,∃ B C:List Str,vs=[.int c,.ref th,.ref ca,.int u]/\0<=c/\Qy u/\H th=some (.lst (B.map V.str))/\H ca=some (.lst (C.map V.str))/\B.length=3/\C.length=3/\(∀ z∈B,Rv z)/\(∀ z∈C,Rv z)/\∀ v t H',Same H H'->TrAt (Nw H H') v t->Mb t<3->Ma Os t->W8 t->Q v H'
theorem Uu {ns:List Str} {i:Int} (h0:0<=i) (h:i<ns.length):∃ z,z∈ns/\Nt (ns.map V.str) i=some (.str z):=by
 obtain⟨j,rfl⟩:=Int.eq_ofNat_of_zero_le h0;have hj:j<ns.length:=by lia
 refine⟨ns[j],zBg _,Fq ?_⟩;rw[zAl,zAf hj];rfl
theorem BS {n:Str} (h:Rv n):n ≠ "" := by
 obtain⟨l,rfl,hl⟩:=h;intro e;have:=congrArg Str.length e;rw[Ij] at this;have z:l.length=0:=this;have:=hl.1
 lia
theorem Io {t:Dx} {n1 n2:Str} (o1:Rv n1) (o2:Rv n2) (k:Int) (h:(Bf t).length<=3/\∀ m∈Bf t,m=((("cause" : Str),V.str n1):Gy)\/m=((("thing" : Str),V.str n2):Gy)\/m=((("cents" : Str),V.int k):Gy)):W8 t:=⟨h.1,.inl ⟨n1,n2,k,BS o1,BS o2,h.2⟩⟩
theorem Y7 (a b:Int):W8 (.at (.day a b)):=by
 have e:Bf (.at (.day a b))=[((("day" : Str),V.int a):Gy),(("day" : Str),V.int (b+1))]:=by unfold Bf; rfl
 unfold W8;rw[e];refine⟨by show 2<=3; decide,.inr ⟨a,b+1,fun m h=>?_⟩⟩;rcases zAq.mp h with h | h
 ·exact .inl h
 ·exact .inr (zAk.mp h)
theorem Tv:Bb ["_law_cell_here", "_law_things", "_law_causes", "_law_unit_here", "_law_cause", "_law_thing", "_law_over", "_law_first", "_law_last", "_law_some"] ["_law_cell_here", "_law_things", "_law_causes", "_law_unit_here"] (An Iv):=by injections
theorem Uk {f:Addr} {fd:zCt} (F:Fun K "_law_cond" "_law_cond" Iv f fd) (T:Txt K mg) (C_law_amount:Ct P w K mg base 1 "_law_amount" ["_law_digit", "_law_unit_here"] N0):FnOk P w K mg base Dv 2 f fd ["_law_cell_here", "_law_things", "_law_causes", "_law_unit_here"] Yw:=by
 have sc:=Tv;bv_omega
 ·obtain⟨_,_,_,_,_,_,rfl,_⟩:=h
  rfl
 obtain⟨c,u,th,ca,B,C,rfl,c0,uo,hth,hca,lB,lC,nB,nC,q⟩:=h;refine⟨_,(Ae (Ba (i:=4) sc.nd rfl (Or.inl rfl) (Cj (Aa Bi (Aa (Av Bu (pv 2) (Ao Br (Ao By (pv 0) Ac) Ac) (fun _ _=>rfl)) Af))))
   (Ae (Ba (i:=5) sc.nd rfl (Or.inl rfl) (Cj (Aa Bi (Aa (Av Bu (pv 1) (Ao Br (Ao By (pv 0) Ac) Ac) (fun _ _=>rfl)) Af))))
   (Ae (Ba (i:=6) sc.nd rfl (Or.inl rfl) (Cj (Aa Bi (Aa (Am C_law_amount (hr.mono (by decide)) rfl (Aa (Ao Br (Ao By (pv 0) Ac) Ac) (Aa (pv 3) Af))) Af))))
   (Ae (Ba (i:=7) sc.nd rfl (Or.inl rfl) (Ao Ca (Ao Fe Ac (Ao Br (Ao By (pv 0) Ac) Ac)) (Ao Br (Ao By (pv 0) Ac) Ac)))
   (Ae (Ba (i:=8) sc.nd rfl (Or.inl rfl) (Ao Ca (pv 7) (Ao Br (Ao By (pv 0) Ac) Ac)))
   (Ae (Bm (Ay Db (Ao Br (Ao By (pv 0) Ac) Ac) Ac (Bd _))
    (Ae (Ba (i:=7) sc.nd rfl (Or.inl rfl) (Ao Fy (Ao Hw Ac Ac) (Ao Br (Ao By (pv 0) Ac) Ac)))
   (Aj (Ba (i:=8) sc.nd rfl (Or.inl rfl) (Ao Fy (Ao Hw Ac Ac) (Ao Br (Ao By (pv 0) Ac) Ac)))))
    Bc)
   (Ae (Ba (i:=9) sc.nd rfl (Or.inl rfl) (Bq (Aa (pv 4) (Aa (pv 5) (Aa (pv 6) (Aa (Cj (Aa Bi (Aa (pv 7) (Aa (pv 8) Af)))) (Aa (Cj (Aa Bi (Aa (pv 4) Af))) Af)))))))
   (Ae (Ba (i:=9) sc.nd rfl (Or.inl rfl) (Ao Dz (pv 9) (Bq (Aa (Cj (Aa Bi (Aa (Bq (Aa (Cj (Aa Bi (Aa (pv 6) Af))) (Aa (pv 5) Af))) Af))) (Aa (Cj (Aa Bi (Aa (Bq (Aa (pv 4) (Aa (pv 5) (Aa (pv 6) Af)))) Af))) Af)))))
   (Ae (Bm (Ay Rc (Ao Br (pv 0) Ac) Ac (Bd _))
    (Aj (Au (Av Bu (pv 9) (Ao Fy (Ao Br (pv 0) Ac) Ac) (fun _ _=>rfl))))
    Bc)
   (Aj (Au (Cj (Aa Bi Af))))))))))))),?_⟩
 refine Oo fun N eN=>?_;have two:2<=sizeLine:=by rw[zCr]; decide
 have three:3<=sizeLine:=by rw[zCr]; decide
 have five:5<=sizeLine:=by rw[zCr]; decide
 have one:1<=sizeLine:=by rw[zCr]; decide
 obtain⟨n1,i1,a1⟩:=Uu (ns:=C) (i:=c/10%3) (by lia) (by lia);obtain⟨n2,i2,a2⟩:=Uu (ns:=B) (i:=c/30%3) (by lia) (by lia);have o1:=nC n1 i1;have o2:=nB n2 i2;refine (vE rfl (vE rfl (vF rfl rfl ⟨⟨by decide,by decide⟩,_,_,rfl,rfl,(by show (0:Int)<3; decide),vI rfl rfl (SqL.of hca) a1 ⟨two,fun t1 k1=>?_⟩⟩)));refine Jk eN [some (.int c),some (.ref th),some (.ref ca),some (.int u),some (.ref t1),none,none,none,none,none] rfl fun N eN=>?_;have s1:=Ag k1 (.tup [V.str "cause",.str n1]);have h1:upd H t1 (.tup [V.str "cause",.str n1]) t1=some (.tup [V.str "cause",.str n1]):=Ab;generalize upd H t1 (.tup [V.str "cause",.str n1])=H1 at s1 h1;refine (vE rfl (vE rfl (vF rfl rfl ⟨⟨by decide,by decide⟩,_,_,rfl,rfl,(by show (0:Int)<3; decide),vI rfl rfl (SqL.of (s1 _ _ hth)) a2 ⟨two,fun t2 k2=>?_⟩⟩)));refine Jk eN [some (.int c),some (.ref th),some (.ref ca),some (.int u),some (.ref t1),some (.ref t2),none,none,none,none] rfl fun N eN=>?_;have s2:=Ag k2 (.tup [V.str "thing",.str n2]);have h2:upd H1 t2 (.tup [V.str "thing",.str n2]) t2=some (.tup [V.str "thing",.str n2]):=Ab;generalize upd H1 t2 (.tup [V.str "thing",.str n2])=H2 at s2 h2;have d90:=md (a:=c/90) (b:=39) (by decide);refine (vE rfl (vF rfl rfl ⟨⟨by decide,by decide⟩,_,_,rfl,rfl,(by show (0:Int)<39; decide),_,rfl,_,u,rfl,d90.1,uo,fun m m0 m1=>⟨two,fun t3 k3=>?_⟩⟩));refine Jk eN [some (.int c),some (.ref th),some (.ref ca),some (.int u),some (.ref t1),some (.ref t2),some (.ref t3),none,none,none] rfl fun N eN=>?_;have s3:=Ag k3 (.tup [V.str "over",.int m])
 have h3:upd H2 t3 (.tup [V.str "over",.int m]) t3=some (.tup [V.str "over",.int m]):=Ab;generalize upd H2 t3 (.tup [V.str "over",.int m])=H3 at s3 h3;refine (vE rfl (vF rfl rfl ⟨⟨by decide,by decide⟩,_,_,rfl,rfl,(by show (0:Int)<3; decide),_,_,rfl,rfl,.inl ⟨by decide,by decide⟩,vE rfl (vF rfl rfl ⟨⟨by decide,by decide⟩,_,_,rfl,rfl,(by show (0:Int)<4; decide),_,_,rfl,rfl,?_⟩)⟩));refine Wb 0 733 ⟨by lia,by lia⟩ fun fi f0 f1=>?_;have d42:=md (a:=c/42120) (b:=400) (by decide);refine Jk eN [some (.int c),some (.ref th),some (.ref ca),some (.int u),some (.ref t1),some (.ref t2),some (.ref t3),some (.int fi),none,none] rfl fun N eN=>?_;refine (vE rfl (vE rfl (vF rfl rfl ⟨⟨by decide,by decide⟩,_,_,rfl,rfl,(by show (0:Int)<400; decide),_,_,rfl,rfl,?_⟩)));refine Wb fi 1132 ⟨by lia,by lia⟩ fun la l0 l1=>?_;refine Jk eN [some (.int c),some (.ref th),some (.ref ca),some (.int u),some (.ref t1),some (.ref t2),some (.ref t3),some (.int fi),some (.int la),none] rfl fun N eN=>?_;have rest:∀ fi la:Int,0<=fi->fi<=la->la<=1000000->N [some (.int c),some (.ref th),some (.ref ca),some (.int u),some (.ref t1),some (.ref t2),some (.ref t3),some (.int fi),some (.int la),none] H3:=?rest
 ·have e6:(10:Int)^(6:Int).toNat=1000000:=by ac_nf
  refine (vE rfl (vF rfl rfl ⟨⟨by decide,by decide⟩,_,_,rfl,rfl,(by show (0:Int)<8; decide),rfl,vE rfl ?_⟩));by_cases c8:V.int (c/42120%8)=V.int 5
  ·refine dT c8 ?_
   refine (vF rfl rfl ⟨⟨by decide,by decide,by decide⟩,vE rfl (vF rfl rfl ⟨⟨by decide,by decide⟩,_,_,rfl,rfl,(by show (0:Int)<4; decide),vF rfl rfl ?_⟩)⟩);refine Gk [some (.int c),some (.ref th),some (.ref ca),some (.int u),some (.ref t1),some (.ref t2),some (.ref t3),some (.int ((10:Int)^(6:Int).toNat-c/10530%4)),some (.int la),none] rfl ?_;refine (vF rfl rfl ⟨⟨by decide,by decide,by decide⟩,vE rfl (vF rfl rfl ⟨⟨by decide,by decide⟩,_,_,rfl,rfl,(by show (0:Int)<2; decide),vF rfl rfl ?_⟩)⟩);refine Gk [some (.int c),some (.ref th),some (.ref ca),some (.int u),some (.ref t1),some (.ref t2),some (.ref t3),some (.int ((10:Int)^(6:Int).toNat-c/10530%4)),some (.int ((10:Int)^(6:Int).toNat-c/10530%2)),none] rfl ?_;exact rest _ _ (by rw[e6]; lia) (by rw[e6]; lia) (by rw[e6]; lia)
  ·exact dF c8 (rest fi la f0 l0 (by lia))
 clear f0 f1 l0 l1 fi la d42;intro fi la f0 fl l6;refine Lg eN fun N eN=>?_;refine (vE rfl (vE rfl (vE rfl (vE rfl (vE rfl ⟨three,fun t4 k4=>?_⟩)))));have s4:=Ag k4 (.tup [V.str "days",.int fi,.int la]);have h4:upd H3 t4 (.tup [V.str "days",.int fi,.int la]) t4=some (.tup [V.str "days",.int fi,.int la]):=Ab;generalize upd H3 t4 (.tup [V.str "days",.int fi,.int la])=H4 at s4 h4;refine (vE rfl ⟨two,fun t5 k5=>?_⟩);have s5:=Ag k5 (.tup [V.str "not",.ref t1]);have h5:upd H4 t5 (.tup [V.str "not",.ref t1]) t5=some (.tup [V.str "not",.ref t1]):=Ab;generalize upd H4 t5 (.tup [V.str "not",.ref t1])=H5 at s5 h5;refine⟨five,fun l1 j1=>?_⟩;have s6:=Ag j1 (.lst [V.ref t1,.ref t2,.ref t3,.ref t4,.ref t5]);have g6:upd H5 l1 (.lst [V.ref t1,.ref t2,.ref t3,.ref t4,.ref t5]) l1=some (.lst [V.ref t1,.ref t2,.ref t3,.ref t4,.ref t5]):=Ab;generalize upd H5 l1 (.lst [V.ref t1,.ref t2,.ref t3,.ref t4,.ref t5])=H6 at s6 g6;refine Jk eN [some (.int c),some (.ref th),some (.ref ca),some (.int u),some (.ref t1),some (.ref t2),some (.ref t3),some (.int fi),some (.int la),some (.ref l1)] rfl fun N eN=>?_;refine (vE rfl (vE rfl ⟨two,fun t6 k6=>?_⟩));have s7:=Ag k6 (.tup [V.str "not",.ref t3]);have h6:upd H6 t6 (.tup [V.str "not",.ref t3]) t6=some (.tup [V.str "not",.ref t3]):=Ab;generalize upd H6 t6 (.tup [V.str "not",.ref t3])=H7 at s7 h6;refine (vE rfl ⟨two,fun l2 j2=>?_⟩);have s8:=Ag j2 (.lst [V.ref t6,.ref t2]);have g8:upd H7 l2 (.lst [V.ref t6,.ref t2]) l2=some (.lst [V.ref t6,.ref t2]):=Ab
 generalize upd H7 l2 (.lst [V.ref t6,.ref t2])=H8 at s8 g8;refine⟨two,fun t7 k7=>?_⟩;have s9:=Ag k7 (.tup [V.str "all",.ref l2]);have h7:upd H8 t7 (.tup [V.str "all",.ref l2]) t7=some (.tup [V.str "all",.ref l2]):=Ab;generalize upd H8 t7 (.tup [V.str "all",.ref l2])=H9 at s9 h7;refine (vE rfl (vE rfl (vE rfl ⟨three,fun l3 j3=>?_⟩)));have s10:=Ag j3 (.lst [V.ref t1,.ref t2,.ref t3]);have g10:upd H9 l3 (.lst [V.ref t1,.ref t2,.ref t3]) l3=some (.lst [V.ref t1,.ref t2,.ref t3]):=Ab;generalize upd H9 l3 (.lst [V.ref t1,.ref t2,.ref t3])=H10 at s10 g10;refine⟨two,fun t8 k8=>?_⟩;have s11:=Ag k8 (.tup [V.str "some",.ref l3]);have h8:upd H10 t8 (.tup [V.str "some",.ref l3]) t8=some (.tup [V.str "some",.ref l3]):=Ab;generalize upd H10 t8 (.tup [V.str "some",.ref l3])=H11 at s11 h8;refine⟨two,fun l4 j4=>?_⟩;have s12:=Ag j4 (.lst [V.ref t7,.ref t8]);have g12:upd H11 l4 (.lst [V.ref t7,.ref t8]) l4=some (.lst [V.ref t7,.ref t8]):=Ab;generalize upd H11 l4 (.lst [V.ref t7,.ref t8])=H12 at s12 g12;have s12':=s7.trans (s8.trans (s9.trans (s10.trans (s11.trans s12))));refine⟨l1,l4,_,_,rfl,rfl,s12' _ _ g6,g12,Ce (by show 7<=1000; decide),fun l5 j5=>?_⟩;have s13:=Ag j5 (.lst ([V.ref t1,.ref t2,.ref t3,.ref t4,.ref t5]++[V.ref t7,.ref t8]));have g13:upd H12 l5 (.lst ([V.ref t1,.ref t2,.ref t3,.ref t4,.ref t5]++[V.ref t7,.ref t8])) l5=some (.lst [V.ref t1,.ref t2,.ref t3,.ref t4,.ref t5,.ref t7,.ref t8]):=Ab;generalize upd H12 l5 (.lst ([V.ref t1,.ref t2,.ref t3,.ref t4,.ref t5]++[V.ref t7,.ref t8]))=H13 at s13 g13
 refine Jk eN [some (.int c),some (.ref th),some (.ref ca),some (.int u),some (.ref t1),some (.ref t2),some (.ref t3),some (.int fi),some (.int la),some (.ref l5)] rfl fun N eN=>?_;have S13:=s12'.trans s13;have S6:=s4.trans (s5.trans s6);have z3:=S13 _ _ (S6 _ _ h3);have z2:=S13 _ _ (S6 _ _ (s3 _ _ h2));have z1:=S13 _ _ (S6 _ _ (s3 _ _ (s2 _ _ h1)));have SS:Same H H13:=s1.trans (s2.trans (s3.trans (S6.trans S13)));have a3:=s1.trans (s2.trans s3);have a4:=a3.trans s4;have a6:=a3.trans S6;have a7:=a6.trans s7;have a8:=a7.trans s8;have a9:=a8.trans s9;have a10:=a9.trans s10;have T1:TrAt (Nw H H13) (.ref t1) (.at (.cau n1)):=by unfold TrAt; exact⟨t1,rfl,Nw.of k1 z1⟩
 have T2:TrAt (Nw H H13) (.ref t2) (.at (.thi n2)):=by unfold TrAt; exact⟨t2,rfl,Nw.of (s1.free k2) z2⟩
 have T3:TrAt (Nw H H13) (.ref t3) (.at (.ovr m)):=by unfold TrAt; exact⟨t3,rfl,Nw.of ((s1.trans s2).free k3) z3⟩
 have T4:TrAt (Nw H H13) (.ref t4) (.at (.day fi la)):=by unfold TrAt; exact⟨t4,rfl,Nw.of (a3.free k4) (S13 _ _ (s6 _ _ (s5 _ _ h4)))⟩
 have T5:TrAt (Nw H H13) (.ref t5) (.no (.at (.cau n1))):=by unfold TrAt; exact⟨t5,_,rfl,Nw.of (a4.free k5) (S13 _ _ (s6 _ _ h5)),T1⟩
 have T6:TrAt (Nw H H13) (.ref t6) (.no (.at (.ovr m))):=by unfold TrAt; exact⟨t6,_,rfl,Nw.of (a6.free k6) (s13 _ _ (s12 _ _ (s11 _ _ (s10 _ _ (s9 _ _ (s8 _ _ h6)))))),T3⟩
 have T7:TrAt (Nw H H13) (.ref t7) (.al [.no (.at (.ovr m)),.at (.thi n2)]):=by
  unfold TrAt;refine⟨t7,l2,_,rfl,Nw.of (a8.free k7) (s13 _ _ (s12 _ _ (s11 _ _ (s10 _ _ h7)))),Nw.of (a7.free j2) (s13 _ _ (s12 _ _ (s11 _ _ (s10 _ _ (s9 _ _ g8))))),?_⟩;unfold TrsAt;refine⟨T6,?_⟩;unfold TrsAt;refine⟨T2,?_⟩;unfold TrsAt;trivial
 have T8:TrAt (Nw H H13) (.ref t8) (.so [.at (.cau n1),.at (.thi n2),.at (.ovr m)]):=by
  unfold TrAt;refine⟨t8,l3,_,rfl,Nw.of (a10.free k8) (s13 _ _ (s12 _ _ h8)),Nw.of (a9.free j3) (s13 _ _ (s12 _ _ (s11 _ _ g10))),?_⟩;unfold TrsAt;refine⟨T1,?_⟩;unfold TrsAt;refine⟨T2,?_⟩;unfold TrsAt;refine⟨T3,?_⟩;unfold TrsAt;trivial
 have om:0<=m/\m<=999999999999:=⟨m0,by lia⟩;have K1:Ma Os (.at (.cau n1)):=by unfold Ma; exact o1
 have K2:Ma Os (.at (.thi n2)):=by unfold Ma; exact o2
 have K3:Ma Os (.at (.ovr m)):=by unfold Ma; exact om
 have K4:Ma Os (.at (.day fi la)):=by unfold Ma; exact⟨f0,fl,l6⟩
 have K5:Ma Os (.no (.at (.cau n1))):=by unfold Ma; exact K1
 have K6:Ma Os (.no (.at (.ovr m))):=by unfold Ma; exact K3
 have K7:Ma Os (.al [.no (.at (.ovr m)),.at (.thi n2)]):=by
  unfold Ma;refine⟨by simp,by simp,C3 fun t ht=>?_⟩;simp at ht;rcases ht with rfl | rfl
  ·exact K6
  ·exact K2
 have K8:Ma Os (.so [.at (.cau n1),.at (.thi n2),.at (.ovr m)]):=by
  unfold Ma;refine⟨by simp,by simp,C3 fun t ht=>?_⟩;simp at ht;rcases ht with rfl | rfl | rfl
  ·exact K1
  ·exact K2
  ·exact K3
 refine (vE rfl (vF rfl rfl ⟨(by show (0:Int)<10; decide),_,_,rfl,rfl,vE rfl ?_⟩));by_cases GH:c%10>2
 ·refine dT GH ?_
  have cs:c%10-3=0\/c%10-3=1\/c%10-3=2\/c%10-3=3\/c%10-3=4\/c%10-3=5\/c%10-3=6:=by lia
  obtain⟨v,t,ev,tv,hv,kv,sv⟩:∃ v t,Nt [V.ref t1,.ref t2,.ref t3,.ref t4,.ref t5,.ref t7,.ref t8] (c%10-3)=some v/\TrAt (Nw H H13) v t/\Mb t<3/\Ma Os t/\W8 t:=by
   rcases cs with e | e | e | e | e | e | e <;> rw[e]
   ·exact⟨_,_,rfl,T1,by simp [Mb,hgts],K1,Io o1 o2 m (by simp [Bf,marksTs,Gv])⟩
   ·exact⟨_,_,rfl,T2,by simp [Mb,hgts],K2,Io o1 o2 m (by simp [Bf,marksTs,Gv])⟩
   ·exact⟨_,_,rfl,T3,by simp [Mb,hgts],K3,Io o1 o2 m (by simp [Bf,marksTs,Gv])⟩
   ·exact⟨_,_,rfl,T4,by simp [Mb,hgts],K4,Y7 _ _⟩
   ·exact⟨_,_,rfl,T5,by simp [Mb,hgts],K5,Io o1 o2 m (by simp [Bf,marksTs,Gv])⟩
   ·exact⟨_,_,rfl,T7,by simp [Mb,hgts],K7,Io o1 o2 m (by simp [Bf,marksTs,Gv])⟩
   ·exact⟨_,_,rfl,T8,by simp [Mb,hgts],K8,Io o1 o2 m (by simp [Bf,marksTs,Gv])⟩
  exact (vE rfl (vE rfl (vF rfl rfl ⟨(by show (0:Int)<10; decide),_,_,rfl,rfl,vI rfl rfl (SqL.of g13) ev (q v t _ SS tv hv kv sv)⟩)))
 ·subst eN
  refine dF GH ⟨one,fun t9 k9=>?_⟩;subst eN;exact q _ (.at .alw) _ (SS.trans (Ag k9 _)) (by unfold TrAt; exact⟨t9,rfl,Nw.of (SS.free k9) Ab⟩) (by decide) (by unfold Ma; trivial) (Io o1 o2 m (by simp [Bf,Gv]))
end
def B6 (κ:A8) (m:Nat):Sp:=fun vs H Q _=>∃ v t,vs=[v]/\TrAt H v t/\Mb t<m/\Ma Os t/\∀ u H',Same H H'->CdAt κ (Nw H H') u t->Q u H'
section
seal L2.PS L2.PSs L2.PE L2.PA
variable {P:Program} {w:World} {K:zAb} {mg:Str->Option Value} {base:Heap} {Ad Ai Ah Ak Aq Ax Aw Ap Bj Al Az:Addr}
theorem Lr:Bb ["_law_cond_here"] ["_law_cond_here"] (An En):=by injections
theorem Lc {f:Addr} {fd:zCt} (F:Fun K "_law_condition" "_law_condition" En f fd) (L:Kl K mg Ad Ai Ah Ak Aq Ax Aw Ap Bj Al Az) {m:Nat} (C_law_condition:Ct P w K mg base (m+2) "_law_condition" ["_law_cond_here"] (B6 (A8.mk Ad Ai Ah Ak Aq Ax Aw Ap) m))
  (NCondition:HJ K mg "Condition" Ad) (KCauseIs:Gr P w K mg base 1 "CauseIs" Ai ["self", "name"] (Iq Ai "name")) (KThingIs:Gr P w K mg base 1 "ThingIs" Ah ["self", "name"] (Iq Ah "name")) (KDaysIn:Gr P w K mg base 1 "DaysIn" Ak ["self", "first", "last"] (P9 Ak)) (KOver:Gr P w K mg base 1 "Over" Aq ["self", "cents"] (Iq Aq "cents"))
  (KNot:Gr P w K mg base 1 "Not" Ax ["self", "part"] (Iq Ax "part")) (KAll:Gr P w K mg base 1 "All" Aw ["self", "several"] (Si Aw)) (KSome:Gr P w K mg base 1 "Some" Ap ["self", "several"] (Si Ap)) :
  FnOk P w K mg base Dv (m+1+2) f fd ["_law_cond_here"] (B6 (A8.mk Ad Ai Ah Ak Aq Ax Aw Ap) (m+1)):=by
 have sc:=Lr;bv_omega
 ·obtain⟨_,_,rfl,_⟩:=h
  rfl
 obtain⟨v,t,rfl,tr,hg,ok,q⟩:=h;refine⟨_,(Ae (Bm (Ay Db (Av Be (pv 0) Ac (fun _ _=>rfl)) Bi (Bd _))
    (Aj (Au (Eb KCauseIs (hr.mono (by lia)) rfl (Aa (Av Be (pv 0) Ac (fun _ _=>rfl)) Af))))
    Bc)
   (Ae (Bm (Ay Db (Av Be (pv 0) Ac (fun _ _=>rfl)) Bi (Bd _))
    (Aj (Au (Eb KThingIs (hr.mono (by lia)) rfl (Aa (Av Be (pv 0) Ac (fun _ _=>rfl)) Af))))
    Bc)
   (Ae (Bm (Ay Db (Av Be (pv 0) Ac (fun _ _=>rfl)) Bi (Bd _))
    (Aj (Au (Eb KDaysIn (hr.mono (by lia)) rfl (Aa (Av Be (pv 0) Ac (fun _ _=>rfl)) (Aa (Av Be (pv 0) Ac (fun _ _=>rfl)) Af)))))
    Bc)
   (Ae (Bm (Ay Db (Av Be (pv 0) Ac (fun _ _=>rfl)) Bi (Bd _))
    (Aj (Au (Eb KOver (hr.mono (by lia)) rfl (Aa (Av Be (pv 0) Ac (fun _ _=>rfl)) Af))))
    Bc)
   (Ae (Bm (Ay Db (Av Be (pv 0) Ac (fun _ _=>rfl)) Bi (Bd _))
    (Aj (Au (Eb KNot (hr.mono (by lia)) rfl (Aa (Am C_law_condition (hr.mono (by lia)) rfl (Aa (Av Be (pv 0) Ac (fun _ _=>rfl)) Af)) Af))))
    Bc)
   (Ae (Bm (Ay Db (Av Be (pv 0) Ac (fun _ _=>rfl)) Bi (Bd _))
    (Aj (Au (Eb KAll (hr.mono (by lia)) rfl (Aa (Da (NC:=["_law_part"]) (own:=["_law_part"]) (cs:=[]) (ix:=[]) rfl (CompScope.of rfl) rfl trivial (Bn (Av Be (pv 0) Ac (fun _ _=>rfl))) (fun _ _ _=>(Bh (i:=0) (show (["_law_part"]:List Str).Nodup from by ac_nf) rfl (Or.inl rfl))) (fun _ _ _=>Cr) (fun _ _ _=>(Am C_law_condition (hr.mono (by lia)) rfl (Aa (pv 0) Af)))) Af))))
    Bc)
   (Ae (Bm (Ay Db (Av Be (pv 0) Ac (fun _ _=>rfl)) Bi (Bd _))
    (Aj (Au (Eb KSome (hr.mono (by lia)) rfl (Aa (Da (NC:=["_law_part"]) (own:=["_law_part"]) (cs:=[]) (ix:=[]) rfl (CompScope.of rfl) rfl trivial (Bn (Av Be (pv 0) Ac (fun _ _=>rfl))) (fun _ _ _=>(Bh (i:=0) (show (["_law_part"]:List Str).Nodup from by ac_nf) rfl (Or.inl rfl))) (fun _ _ _=>Cr) (fun _ _ _=>(Am C_law_condition (hr.mono (by lia)) rfl (Aa (pv 0) Af)))) Af))))
    Bc)
   (Aj (Au (AE NCondition rfl)))))))))),?_⟩
 have sne:∀ {y z:Str},y≠z->¬ V.str y=V.str z:=fun h e=>h (V.str.inj e);cases t with
 | «at» c=>
  cases c with
  | alw=>
   unfold TrAt at tr;obtain⟨p,rfl,hp⟩:=tr;ac_rfl;ac_rfl;ac_rfl;ac_rfl;ac_rfl;ac_rfl;ac_rfl;refine fun y dx ny nd ne=>q _ _ (Py ny nd) ?_;unfold CdAt;exact (x2 y dx ⟨rfl,Nw.of ny Ab⟩)
  | cau n=>
   unfold TrAt at tr;obtain⟨p,rfl,hp⟩:=tr;refine (vE rfl (vI rfl rfl (SqT.of hp) rfl ⟨rfl,vE rfl (dT rfl (vE rfl (vI rfl rfl (SqT.of hp) rfl (fun y dx ny nd ne=>(x3 y dx _ (c4 rfl Ab rfl (q _ _ (Gd ny nd) ?_)))))))⟩));unfold CdAt;exact (x2 y dx ⟨rfl,Nw.of ny Ab⟩)
  | thi n=>
   unfold TrAt at tr;obtain⟨p,rfl,hp⟩:=tr;ac_rfl;refine (vE rfl (vI rfl rfl (SqT.of hp) rfl ⟨rfl,vE rfl (dT rfl (vE rfl (vI rfl rfl (SqT.of hp) rfl (fun y dx ny nd ne=>(x3 y dx _ (c4 rfl Ab rfl (q _ _ (Gd ny nd) ?_)))))))⟩));unfold CdAt;exact (x2 y dx ⟨rfl,Nw.of ny Ab⟩)
  | day a b=>
   unfold TrAt at tr;obtain⟨p,rfl,hp⟩:=tr;ac_rfl;ac_rfl;refine (vE rfl (vI rfl rfl (SqT.of hp) rfl ⟨rfl,vE rfl (dT rfl (vE rfl (vI rfl rfl (SqT.of hp) rfl (vE rfl (vI rfl rfl (SqT.of hp) rfl (fun y dx ny nd ne=>(x4 y dx _ _ (c3 rfl Ab (fun H' kp hy=>⟨rfl,q _ _ (fun z o e=>?_) ?_⟩)))))))))⟩))
   ·have n1:=At e ny
    rw[kp z n1,Ar n1,Ar (At e nd)]; exact e
   ·unfold CdAt
    exact (x2 y dx ⟨rfl,Nw.of ny hy⟩)
  | ovr c=>
   unfold TrAt at tr;obtain⟨p,rfl,hp⟩:=tr;ac_rfl;ac_rfl;ac_rfl;refine (vE rfl (vI rfl rfl (SqT.of hp) rfl ⟨rfl,vE rfl (dT rfl (vE rfl (vI rfl rfl (SqT.of hp) rfl (fun y dx ny nd ne=>(x3 y dx _ (c4 rfl Ab rfl (q _ _ (Gd ny nd) ?_)))))))⟩));unfold CdAt;exact (x2 y dx ⟨rfl,Nw.of ny Ab⟩)
 | no t=>
  unfold TrAt at tr;obtain⟨p,wt,rfl,hp,tr⟩:=tr;unfold Mb at hg;unfold Ma at ok;ac_rfl;ac_rfl;ac_rfl;ac_rfl;refine (vE rfl (vI rfl rfl (SqT.of hp) rfl ⟨rfl,vE rfl (dT rfl (vE rfl (vI rfl rfl (SqT.of hp) rfl (x2 wt t (c5 rfl tr (by lia) ok (fun u H1 s1 cd y dx ny nd ne=>(x3 y dx _ (c4 rfl Ab rfl (q _ _ (s1.trans (Gd ny nd)) ?_)))))))))⟩));unfold CdAt;exact (x3 y dx u (c3 rfl (Nw.of (s1.free ny) Ab) (cd.same (Nw.grow fun b o _ e=>Gd ny nd _ _ e))))
 | al ts=>
  unfold TrAt at tr;obtain⟨p,a,vs,rfl,hp,ha,trs⟩:=tr;unfold Mb at hg;have hlen:=trs.len;unfold Ma at ok;obtain⟨_,ts8,oks⟩:=ok;ac_rfl;ac_rfl;ac_rfl;ac_rfl;ac_rfl;refine (vE rfl (vI rfl rfl (SqT.of hp) rfl ⟨rfl,vE rfl (dT rfl (vE rfl (vI rfl rfl (SqT.of hp) rfl ⟨a,rfl,⟨_,SqL.of ha⟩,fun pc hpc=>?_⟩)))⟩));refine Cc (K:=K) (a:=a) (xs:=vs) (fun i ys H3=>H3 pc=some (.lst ys)/\ys.length=i/\Same H H3/\CdsAt (A8.mk Ad Ai Ah Ak Aq Ax Aw Ap) (Off pc (Nw H H3)) ys (ts.take i)) ⟨Ab,rfl,Ag hpc _,by rw[zAY]; unfold CdsAt; trivial⟩ (fun i ys H3 _ ⟨h1,h2,h3,_⟩=>⟨h1,by lia,SqL.of (h3 _ _ ha)⟩) (by rw[zCr]; lia) ?_ ?_
  ·rintro i v ys H3 hi ⟨h1,h2,h3,h4⟩
   obtain⟨t,et,tr⟩:=trs.get hi;refine (vE rfl (x2 v t (c5 rfl (tr.same h3) (Ur (by lia) i et) (A0 oks t (zAu et)) (fun u H6 s6 cd=>⟨s6 _ _ h1,rfl,Ab,by rw[zAe,h2]; rfl,Vj hpc (h3.trans s6),?_⟩))));rw[Hb et];refine CdsAt.snoc (h4.same fun b o e=>?_) (cd.same fun b o e=>?_)
   ·obtain⟨n,e⟩:=Off.at e
    obtain⟨e0,e⟩:=Nw.at e;exact Off.of n (Nw.of e0 (by rw[Ar n]; exact s6 _ _ e))
   ·obtain⟨e0,e⟩:=Nw.at e
    have n:b≠pc:=fun z=>by rw[z,h1] at e0; cases e0
    exact Off.of n (Nw.of (h3.free e0) (by rw[Ar n]; exact e))
  ·rintro ys H3 ⟨h1,h2,h3,h4⟩
   rw[hlen,zAz] at h4;intro y dx ny nd ne;have s3:Same H3 (upd (upd H3 dx (.own y)) y (.ins Aw dx [])):=Py ny nd;refine (x4 y dx pc ys (c4 rfl Ab (s3 _ _ h1) (fun l H4 nl kp hy hl=>⟨rfl,?_⟩)));have k4:∀ b o,H3 b=some o->H4 b=some o:=fun b o e=>by rw[kp b (At e ny) (At (s3 _ _ e) nl)]; exact s3 _ _ e
   refine q _ _ (fun b o e=>k4 _ _ (h3 _ _ e)) ?_;unfold CdAt;refine (x4 y dx l ys (c4 rfl (Nw.of (h3.free ny) hy) (Nw.of (h3.free (s3.free nl)) hl) (h4.same fun b o e=>?_)));obtain⟨n,e⟩:=Off.at e;obtain⟨e0,e⟩:=Nw.at e;exact Nw.of e0 (k4 _ _ e)
 | so ts=>
  unfold TrAt at tr;obtain⟨p,a,vs,rfl,hp,ha,trs⟩:=tr;unfold Mb at hg;have hlen:=trs.len;unfold Ma at ok;obtain⟨_,ts8,oks⟩:=ok;ac_rfl;ac_rfl;ac_rfl;ac_rfl;ac_rfl;ac_rfl;refine (vE rfl (vI rfl rfl (SqT.of hp) rfl ⟨rfl,vE rfl (dT rfl (vE rfl (vI rfl rfl (SqT.of hp) rfl ⟨a,rfl,⟨_,SqL.of ha⟩,fun pc hpc=>?_⟩)))⟩));refine Cc (K:=K) (a:=a) (xs:=vs) (fun i ys H3=>H3 pc=some (.lst ys)/\ys.length=i/\Same H H3/\CdsAt (A8.mk Ad Ai Ah Ak Aq Ax Aw Ap) (Off pc (Nw H H3)) ys (ts.take i)) ⟨Ab,rfl,Ag hpc _,by rw[zAY]; unfold CdsAt; trivial⟩ (fun i ys H3 _ ⟨h1,h2,h3,_⟩=>⟨h1,by lia,SqL.of (h3 _ _ ha)⟩) (by rw[zCr]; lia) ?_ ?_
  ·rintro i v ys H3 hi ⟨h1,h2,h3,h4⟩
   obtain⟨t,et,tr⟩:=trs.get hi;refine (vE rfl (x2 v t (c5 rfl (tr.same h3) (Ur (by lia) i et) (A0 oks t (zAu et)) (fun u H6 s6 cd=>⟨s6 _ _ h1,rfl,Ab,by rw[zAe,h2]; rfl,Vj hpc (h3.trans s6),?_⟩))));rw[Hb et];refine CdsAt.snoc (h4.same fun b o e=>?_) (cd.same fun b o e=>?_)
   ·obtain⟨n,e⟩:=Off.at e
    obtain⟨e0,e⟩:=Nw.at e;exact Off.of n (Nw.of e0 (by rw[Ar n]; exact s6 _ _ e))
   ·obtain⟨e0,e⟩:=Nw.at e
    have n:b≠pc:=fun z=>by rw[z,h1] at e0; cases e0
    exact Off.of n (Nw.of (h3.free e0) (by rw[Ar n]; exact e))
  ·rintro ys H3 ⟨h1,h2,h3,h4⟩
   rw[hlen,zAz] at h4;intro y dx ny nd ne;have s3:Same H3 (upd (upd H3 dx (.own y)) y (.ins Ap dx [])):=Py ny nd;refine (x4 y dx pc ys (c4 rfl Ab (s3 _ _ h1) (fun l H4 nl kp hy hl=>⟨rfl,?_⟩)));have k4:∀ b o,H3 b=some o->H4 b=some o:=fun b o e=>by rw[kp b (At e ny) (At (s3 _ _ e) nl)]; exact s3 _ _ e
   refine q _ _ (fun b o e=>k4 _ _ (h3 _ _ e)) ?_;unfold CdAt;refine (x4 y dx l ys (c4 rfl (Nw.of (h3.free ny) hy) (Nw.of (h3.free (s3.free nl)) hl) (h4.same fun b o e=>?_)));obtain⟨n,e⟩:=Off.at e;obtain⟨e0,e⟩:=Nw.at e;exact Nw.of e0 (k4 _ _ e)
end
def O9 (m:Nat):Sp:=fun vs H Q _=>∃ v t,vs=[v]/\TrAt H v t/\Mb t<m/\(Bf t).length<=60/\∀ l H',Same H H'->H l=none->MkAt H' l (Bf t)->Q (.ref l) H'
theorem Oy {H:Hp}:∀ {us:List V} {ts:List Dx} {i:Nat} {x:V},TrsAt H us ts->us[i]?=some x->∃ t,ts[i]?=some t/\TrAt H x t
 | [],_,_,_,_,e=>by simp at e
 | u::us,t::ts,0,x,h,e=>by
  unfold TrsAt at h;simp at e;subst e;exact⟨t,rfl,h.1⟩
 | u::us,t::ts,i+1,x,h,e=>by
  unfold TrsAt at h;rw[zAL] at e ⊢;exact Oy h.2 e
 | _::_,[],_,_,h,_=>by unfold TrsAt at h; exact h.elim
theorem Lx {H:Hp}:∀ {us:List V} {ts:List Dx},TrsAt H us ts->us.length=ts.length
 | [],[],_=>rfl
 | u::us,t::ts,h=>by
  unfold TrsAt at h;rw[zAj,zAj,Lx h.2]
 | [],_::_,h=>by unfold TrsAt at h; exact h.elim
 | _::_,[],h=>by unfold TrsAt at h; exact h.elim
theorem C7:∀ {ts:List Dx} {t:Dx} {m:Nat},t∈ts->hgts ts<m->Mb t<m
 | u::us,t,m,h,l=>by
  unfold hgts at l;rcases zAq.mp h with rfl | h
  ·lia
  ·exact C7 h (by lia)
theorem Dm:marksTs []=[]:=by unfold marksTs; rfl
theorem Df (t:Dx) (ts:List Dx):marksTs (t::ts)=Bf t++marksTs ts:=by rw[marksTs]
theorem Jd:∀ (ts us:List Dx),marksTs (ts++us)=marksTs ts++marksTs us
 | [],us=>by rw[Dm,List.nil_append,List.nil_append]
 | t::ts,us=>by rw[List.cons_append,Df,Df,Jd ts us,zBM]
section
variable {P:Program} {w:World} {K:zAb} {mg:Str->Option Value} {base:Heap}
theorem Ry:Bb ["_law_cond_here", "_law_found", "_law_part"] ["_law_cond_here"] (An Hr):=by injections
theorem Ri {f:Addr} {fd:zCt} (F:Fun K "_law_marks" "_law_marks" Hr f fd) {m:Nat} (C_law_marks:Ct P w K mg base (m+1) "_law_marks" ["_law_cond_here"] (O9 m)):FnOk P w K mg base Dv (m+1+1) f fd ["_law_cond_here"] (O9 (m+1)):=by
 have sc:=Ry;bv_omega
 ·obtain⟨_,_,rfl,_⟩:=h
  rfl
 obtain⟨v,t,rfl,tr,hg,l6,q⟩:=h;refine⟨_,(Ae (Bm (Ay Db (Av Be (pv 0) Ac (fun _ _=>rfl)) Bi (Bd _))
    (Aj (Au (Bq (Aa (Cj (Aa Bi (Aa (Av Be (pv 0) Ac (fun _ _=>rfl)) Af))) (Aa (Cj (Aa Bi (Aa (Ao Ca (Av Be (pv 0) Ac (fun _ _=>rfl)) Ac) Af))) Af)))))
    Bc)
   (Ae (Bm (Ay Db (Av Be (pv 0) Ac (fun _ _=>rfl)) Bi (Bd _))
    (Aj (Au (Bq (Aa (Cj (Aa Bi (Aa (Av Be (pv 0) Ac (fun _ _=>rfl)) Af))) Af))))
    Bc)
   (Ae (Bm (Ay Db (Av Be (pv 0) Ac (fun _ _=>rfl)) Bi (Bd _))
    (Aj (Au (Am C_law_marks (hr.mono (by lia)) rfl (Aa (Av Be (pv 0) Ac (fun _ _=>rfl)) Af))))
    Bc)
   (Ae (Bm (PW.pt (Dk (Ay Db (Av Be (pv 0) Ac (fun _ _=>rfl)) Bi (Bd _)) (Dn (Ay Db (Av Be (pv 0) Ac (fun _ _=>rfl)) Bi (Bd _)))))
    (Ae (Ba (i:=1) sc.nd rfl (Or.inl rfl) (Bq Af))
   (Ae (Dd PassesOwn.never rfl (Bn (Av Be (pv 0) Ac (fun _ _=>rfl))) (Bh (i:=2) sc.nd rfl (Or.inl rfl))
    (Aj (Ba (i:=1) sc.nd rfl (Or.inl rfl) (Ao Dz (pv 1) (Am C_law_marks (hr.mono (by lia)) rfl (Aa (pv 2) Af))))))
   (Aj (Au (pv 1)))))
    Bc)
   (Ae (Bm (Ay Db (Av Be (pv 0) Ac (fun _ _=>rfl)) Bi (Bd _))
    (Aj (Au (Bq Af)))
    Bc)
   (Aj (Au (Bq (Aa (Cj (Aa (Av Be (pv 0) Ac (fun _ _=>rfl)) (Aa (Av Be (pv 0) Ac (fun _ _=>rfl)) Af))) Af))))))))),?_⟩
 have sl:=zCr;have one:1<=sizeLine:=by lia
 have two:2<=sizeLine:=by lia
 have loop:∀ (p l:Addr) (us:List V) (ts:List Dx) (w:Str),H p=some (.tup [.str w,.ref l])->H l=some (.lst us)->TrsAt H us ts->hgts ts<m->(marksTs ts).length<=60->(∀ r H',Same H H'->H r=none->MkAt H' r (marksTs ts)->Q (.ref r) H') ->
   Wl (Ya (CQ Uz) (Dw 1)) (Wl (FE (BN K (Tb (Xf K) (Fz 0) (tC (V.int 1)))) (Dw 2) (Ya (Tb ER (Fz 1) (Xi (O9 m) [] E0 (Eh (Fz 2) Uz))) (Dw 1))) (Zh (Fz 1))) { nx:=fun x H'=>Q V.non H',rt:=Q } [some (.ref p),none,none] H:=fun p l us ts w hp hl tr hg l6 q=>by
  refine⟨zAC _,fun r nr=>?_⟩;refine Gk [some (.ref p),some (.ref r),none] rfl ?_;have s1:=Ag nr (.lst []);have h1:MkAt (upd H r (.lst [])) r []:=⟨[],Ab,trivial⟩;refine (vE rfl (vI rfl rfl (SqT.of (s1 _ _ hp)) rfl ⟨l,rfl,⟨_,SqL.of (s1 _ _ hl)⟩,?_⟩));have e0:marksTs []=[]:=by unfold marksTs; rfl
  refine Cm (K:=K) (a:=l) (xs:=us) (fun i σ H2=>(∃ r o,σ=[some (.ref p),some (.ref r),o]/\H r=none/\MkAt H2 r (marksTs (ts.take i)))/\Same H H2) ⟨⟨r,none,rfl,nr,by rw[zAY,e0]; exact h1⟩,s1⟩ (fun i σ H2 _ hh=>SqL.of (hh.2 _ _ hl)) ?_ ?_
  ·rintro i x σ H2 hi ⟨⟨r,o,rfl,nr,xs,h2,mk⟩,s2⟩
   obtain⟨t,ht,tr'⟩:=Oy tr hi;have mt:=zAu ht;have pt:=Im mt;refine Gk [some (.ref p),some (.ref r),some x] rfl ?_;refine (vE rfl (vE rfl ⟨x,t,rfl,TrAt.same s2 _ tr',C7 mt hg,by lia,fun r2 H3 s3 nr2 ⟨ys,h3,mk3⟩=>?_⟩));have l1:=mk.len;have l2:=mk3.len;have lt:(marksTs (ts.take i)).length<=(marksTs ts).length:=Hn ts i;refine⟨r,r2,xs,ys,rfl,rfl,s3 _ _ h2,h3,by lia,fun r3 n3=>?_⟩;refine Gk [some (.ref p),some (.ref r3),some x] rfl ?_;have s4:=Ag n3 (.lst (xs++ys));refine⟨⟨r3,_,rfl,s2.free (s3.free n3),xs++ys,Ab,?_⟩,s2.trans (s3.trans s4)⟩;rw[Cd ht,Jd,Df,Dm,zAT];exact (mk.mono fun t zs e=>s4 _ _ (s3 _ _ e)).app (mk3.mono fun t zs e=>s4 _ _ e)
  ·rintro σ H2 ⟨⟨r,o,rfl,nr,mk⟩,s2⟩
   rw[Lx tr,zAz] at mk;exact vE rfl (q r H2 s2 nr mk)
 cases t with
 | «at» c=>
  cases c with
  | alw=>
   unfold TrAt at tr;obtain⟨p,rfl,hp⟩:=tr;refine (vE rfl (vI rfl rfl (SqT.of hp) rfl ⟨rfl,vE rfl (dF (fun e=>absurd (V.str.inj e) (by ac_nf)) ?_)⟩));refine (vE rfl (vI rfl rfl (SqT.of hp) rfl ⟨rfl,vE rfl (dF (fun e=>absurd (V.str.inj e) (by ac_nf)) ?_)⟩));refine (vE rfl (vI rfl rfl (SqT.of hp) rfl ⟨rfl,vE rfl (dF (fun e=>absurd (V.str.inj e) (by ac_nf)) ?_)⟩));refine (vE rfl (vI rfl rfl (SqT.of hp) rfl ⟨rfl,vE rfl (dF (fun e=>absurd (V.str.inj e) (by ac_nf)) ?_)⟩));refine (vE rfl (vI rfl rfl (SqT.of hp) rfl ⟨rfl,vE rfl (dF (fun e=>absurd (V.str.inj e) (by ac_nf)) ?_)⟩));refine (vE rfl (vI rfl rfl (SqT.of hp) rfl ⟨rfl,vE rfl (dT rfl ?_)⟩));exact⟨zAC _,fun l nl=>q l _ (Ag nl _) nl (by unfold Bf; exact⟨[],Ab,trivial⟩)⟩
  | cau n=>
   unfold TrAt at tr;obtain⟨p,rfl,hp⟩:=tr;refine (vE rfl (vI rfl rfl (SqT.of hp) rfl ⟨rfl,vE rfl (dF (fun e=>absurd (V.str.inj e) (by ac_nf)) ?_)⟩));refine (vE rfl (vI rfl rfl (SqT.of hp) rfl ⟨rfl,vE rfl (dF (fun e=>absurd (V.str.inj e) (by ac_nf)) ?_)⟩));refine (vE rfl (vI rfl rfl (SqT.of hp) rfl ⟨rfl,vE rfl (dF (fun e=>absurd (V.str.inj e) (by ac_nf)) ?_)⟩));refine (vE rfl (vI rfl rfl (SqT.of hp) rfl ⟨rfl,vE rfl (dF (fun e=>absurd (V.str.inj e) (by ac_nf)) ?_)⟩));refine (vE rfl (vI rfl rfl (SqT.of hp) rfl ⟨rfl,vE rfl (dF (fun e=>absurd (V.str.inj e) (by ac_nf)) ?_)⟩));refine (vE rfl (vI rfl rfl (SqT.of hp) rfl ⟨rfl,vE rfl (dF (fun e=>absurd (V.str.inj e) (by ac_nf)) ?_)⟩));refine (vE rfl (vI rfl rfl (SqT.of hp) rfl (vE rfl (vI rfl rfl (SqT.of hp) rfl ⟨two,fun t1 n1=>⟨one,fun l nl=>?_⟩⟩))));exact q l _ ((Ag n1 _).trans (Ag nl _)) ((Ag n1 _).free nl) (by unfold Bf; exact⟨_,Ab,⟨t1,rfl,Ag nl _ _ _ Ab⟩,trivial⟩)
  | thi n=>
   unfold TrAt at tr;obtain⟨p,rfl,hp⟩:=tr;refine (vE rfl (vI rfl rfl (SqT.of hp) rfl ⟨rfl,vE rfl (dF (fun e=>absurd (V.str.inj e) (by ac_nf)) ?_)⟩));refine (vE rfl (vI rfl rfl (SqT.of hp) rfl ⟨rfl,vE rfl (dF (fun e=>absurd (V.str.inj e) (by ac_nf)) ?_)⟩));refine (vE rfl (vI rfl rfl (SqT.of hp) rfl ⟨rfl,vE rfl (dF (fun e=>absurd (V.str.inj e) (by ac_nf)) ?_)⟩));refine (vE rfl (vI rfl rfl (SqT.of hp) rfl ⟨rfl,vE rfl (dF (fun e=>absurd (V.str.inj e) (by ac_nf)) ?_)⟩));refine (vE rfl (vI rfl rfl (SqT.of hp) rfl ⟨rfl,vE rfl (dF (fun e=>absurd (V.str.inj e) (by ac_nf)) ?_)⟩));refine (vE rfl (vI rfl rfl (SqT.of hp) rfl ⟨rfl,vE rfl (dF (fun e=>absurd (V.str.inj e) (by ac_nf)) ?_)⟩));refine (vE rfl (vI rfl rfl (SqT.of hp) rfl (vE rfl (vI rfl rfl (SqT.of hp) rfl ⟨two,fun t1 n1=>⟨one,fun l nl=>?_⟩⟩))));exact q l _ ((Ag n1 _).trans (Ag nl _)) ((Ag n1 _).free nl) (by unfold Bf; exact⟨_,Ab,⟨t1,rfl,Ag nl _ _ _ Ab⟩,trivial⟩)
  | day a b=>
   unfold TrAt at tr;obtain⟨p,rfl,hp⟩:=tr;refine (vE rfl (vI rfl rfl (SqT.of hp) rfl ⟨rfl,vE rfl (dT rfl ?_)⟩));refine (vE rfl (vI rfl rfl (SqT.of hp) rfl ⟨two,fun t1 n1=>?_⟩));have s1:=Ag n1 (.tup [.str "day",.int a]);refine (vE rfl (vI rfl rfl (SqT.of (s1 _ _ hp)) rfl (vF rfl rfl ⟨two,fun t2 n2=>⟨two,fun l nl=>?_⟩⟩)));have s2:=Ag n2 (.tup [.str "day",.int (b+1)]);have s3:=Ag nl (.lst [.ref t1,.ref t2]);exact q l _ (s1.trans (s2.trans s3)) (s1.free (s2.free nl)) (by unfold Bf; exact⟨_,Ab,⟨t1,rfl,s3 _ _ (s2 _ _ Ab)⟩,⟨t2,rfl,s3 _ _ Ab⟩,trivial⟩)
  | ovr k=>
   unfold TrAt at tr;obtain⟨p,rfl,hp⟩:=tr;refine (vE rfl (vI rfl rfl (SqT.of hp) rfl ⟨rfl,vE rfl (dF (fun e=>absurd (V.str.inj e) (by ac_nf)) ?_)⟩));refine (vE rfl (vI rfl rfl (SqT.of hp) rfl ⟨rfl,vE rfl (dT rfl ?_)⟩));refine (vE rfl (vI rfl rfl (SqT.of hp) rfl ⟨two,fun t1 n1=>⟨one,fun l nl=>?_⟩⟩));exact q l _ ((Ag n1 _).trans (Ag nl _)) ((Ag n1 _).free nl) (by unfold Bf; exact⟨_,Ab,⟨t1,rfl,Ag nl _ _ _ Ab⟩,trivial⟩)
 | no t=>
  unfold TrAt at tr;obtain⟨p,w',rfl,hp,tr'⟩:=tr;unfold Mb at hg;unfold Bf at l6 q;refine (vE rfl (vI rfl rfl (SqT.of hp) rfl ⟨rfl,vE rfl (dF (fun e=>absurd (V.str.inj e) (by ac_nf)) ?_)⟩));refine (vE rfl (vI rfl rfl (SqT.of hp) rfl ⟨rfl,vE rfl (dF (fun e=>absurd (V.str.inj e) (by ac_nf)) ?_)⟩));refine (vE rfl (vI rfl rfl (SqT.of hp) rfl ⟨rfl,vE rfl (dT rfl ?_)⟩));exact (vE rfl (vI rfl rfl (SqT.of hp) rfl ⟨w',t,rfl,tr',by lia,l6,fun l H' s' nl mk=>q l H' s' nl mk⟩))
 | al ts=>
  unfold TrAt at tr;obtain⟨p,l,us,rfl,hp,hl,tr'⟩:=tr;unfold Mb at hg;unfold Bf at l6 q;refine (vE rfl (vI rfl rfl (SqT.of hp) rfl ⟨rfl,vE rfl (dF (fun e=>absurd (V.str.inj e) (by ac_nf)) ?_)⟩));refine (vE rfl (vI rfl rfl (SqT.of hp) rfl ⟨rfl,vE rfl (dF (fun e=>absurd (V.str.inj e) (by ac_nf)) ?_)⟩));refine (vE rfl (vI rfl rfl (SqT.of hp) rfl ⟨rfl,vE rfl (dF (fun e=>absurd (V.str.inj e) (by ac_nf)) ?_)⟩));refine (vE rfl (vI rfl rfl (SqT.of hp) rfl ⟨rfl,vE rfl (dT rfl (Kn ?_))⟩));exact loop p l us ts _ hp hl tr' (by lia) l6 q
 | so ts=>
  unfold TrAt at tr;obtain⟨p,l,us,rfl,hp,hl,tr'⟩:=tr;unfold Mb at hg;unfold Bf at l6 q;refine (vE rfl (vI rfl rfl (SqT.of hp) rfl ⟨rfl,vE rfl (dF (fun e=>absurd (V.str.inj e) (by ac_nf)) ?_)⟩));refine (vE rfl (vI rfl rfl (SqT.of hp) rfl ⟨rfl,vE rfl (dF (fun e=>absurd (V.str.inj e) (by ac_nf)) ?_)⟩));refine (vE rfl (vI rfl rfl (SqT.of hp) rfl ⟨rfl,vE rfl (dF (fun e=>absurd (V.str.inj e) (by ac_nf)) ?_)⟩));refine (vE rfl (vI rfl rfl (SqT.of hp) rfl ⟨rfl,vE rfl (dF (fun e=>absurd (V.str.inj e) (by ac_nf)) ?_)⟩));refine (vE rfl (vI rfl rfl (SqT.of hp) rfl ⟨rfl,vE rfl (dT rfl ?_)⟩));exact loop p l us ts _ hp hl tr' (by lia) l6 q
end
def GD (so:Str) (v:V):Prop:=so ≠ "day" \/ ∃ y,v = .int y/\1<=y/\y<=1000000
structure Fnd (so:Str) (ms:List Gy) (fs:List V):Prop where
 nd:fs.Nodup
 mem:∀ v,v∈fs↔(v∈Bp so ms/\GD so v)
theorem Hs {so:Str} {ms:List Gy} {m:Gy} {v:V}:v∈Bp so (ms++[m])↔(v∈Bp so ms\/(m.1=so/\v=m.2)):=by
 rw[Jn,Md,zAW];by_cases c:m.1=so
 ·rw[if_pos c,zAk]
  exact⟨fun h=>h.imp id fun e=>⟨c,e⟩,fun h=>h.imp id fun e=>e.2⟩
 ·rw[if_neg c]
  exact⟨fun h=>h.imp id fun e=>absurd e zBW,fun h=>h.imp id fun e=>absurd e.1 c⟩
theorem Fnd.far {so:Str} {ms:List Gy} {fs:List V} {m:Gy} (h:Fnd so ms fs) (c:¬ m.1=so):Fnd so (ms++[m]) fs:=⟨h.nd,fun v=>by
 rw[h.mem,Hs];exact⟨fun z=>⟨.inl z.1,z.2⟩,fun z=>⟨z.1.elim id fun e=>absurd e.1 c,z.2⟩⟩⟩
theorem Fnd.old {so:Str} {ms:List Gy} {fs:List V} {m:Gy} (h:Fnd so ms fs) (c:m.1=so) (o:m.2∈fs):Fnd so (ms++[m]) fs:=⟨h.nd,fun v=>by
 rw[h.mem,Hs];refine⟨fun z=>⟨.inl z.1,z.2⟩,fun z=>⟨z.1.elim id fun e=>?_,z.2⟩⟩;rw[e.2];exact ((h.mem _).mp o).1⟩
theorem Fnd.no {so:Str} {ms:List Gy} {fs:List V} {m:Gy} (h:Fnd so ms fs) (c:m.1=so) (o:¬ GD so m.2):Fnd so (ms++[m]) fs:=⟨h.nd,fun v=>by
 rw[h.mem,Hs];refine⟨fun z=>⟨.inl z.1,z.2⟩,fun z=>⟨z.1.elim id fun e=>?_,z.2⟩⟩;exact absurd (by rw[<- e.2]; exact z.2) o⟩
theorem Fnd.new {so:Str} {ms:List Gy} {fs:List V} {m:Gy} (h:Fnd so ms fs) (c:m.1=so) (n:m.2∉fs) (o:GD so m.2):Fnd so (ms++[m]) (fs++[m.2]):=by
 refine⟨?_,fun v=>?_⟩
 ·rw[List.nodup_append]
  refine⟨h.nd,by simp,fun a ha b hb=>?_⟩;rw[zAk.mp hb];exact fun e=>n (e▸ha)
 ·rw[zAW,zAk,h.mem,Hs]
  refine⟨fun z=>z.elim (fun z=>⟨.inl z.1,z.2⟩) fun z=>⟨.inr ⟨c,z⟩,by rw[z]; exact o⟩,fun z=>z.1.elim (fun y=>.inl ⟨y,z.2⟩) fun y=>.inr y.2⟩
theorem Sq {m:Gy} (h:AB m):plain m.2:=by
 rcases h with ⟨_,h⟩ | ⟨_,h⟩
 ·exact .inl h
 ·exact .inr h
theorem Z6 {m:Gy} (h:AB m) (e:m.1 = "day"):∃ y,m.2 = .int y:=by
 rcases h with ⟨h,_⟩ | ⟨_,h⟩
 ·rcases h with h | h <;> exact absurd (h.symm.trans e) (by ac_nf)
 ·exact h
theorem R0 {v:V} (h:plain v):Ci v=true:=by
 rcases h with ⟨z,rfl⟩ | ⟨z,rfl⟩ <;> rfl
theorem HF {x y:V} {A B:Prop} (e:x=y) (h:B):if (!decide (x=y))=true then A else B:=by
 rw[decide_eq_true e];exact Cg h
theorem HB {x y:V} {A B:Prop} (e:¬ x=y) (h:A):if (!decide (x=y))=true then A else B:=by
 rw[decide_eq_false e];exact Kn h
theorem DW {ns:List Str} (h:(ns.map V.str).Nodup):ns.Nodup:=by
 rw[zAJ,zBo] at h;rw[zAJ];exact h.imp fun n e=>n (congrArg V.str e)
theorem Q8 {ns:List Int} (h:(ns.map V.int).Nodup):ns.Nodup:=by
 rw[zAJ,zBo] at h;rw[zAJ];exact h.imp fun n e=>n (congrArg V.int e)
def Up (K:zAb):Sp:=fun vs H Q _=>∃ a us ts so,vs=[.ref a,.str so]/\H a=some (.lst us)/\TrsAt H us ts/\(∀ t∈ts,Mb t<3)/\(marksTs ts).length<=60 /\
 (((so = "cause" \/ so = "thing")/\∀ r zs H',Same H H'->H r=none->H' r=some (.lst (List.map V.str zs))->zs.Nodup->PyProof.Rows.sortedS zs=true->(∀ y,y∈zs↔V.str y∈Bp so (marksTs ts))->Q (.ref r) H') \/
   (so = "cents"/\∀ r zs H',Same H H'->H r=none->H' r=some (.lst (List.map V.int zs))->zs.Pairwise (· < ·)->(∀ y,y∈zs↔V.int y∈Bp so (marksTs ts))->Q (.ref r) H') \/
   (so = "day"/\∀ r zs H',Same H H'->H r=none->H' r=some (.lst (List.map V.int zs))->zs.Pairwise (· < ·)->(∀ y,y∈zs↔(V.int y∈Bp so (marksTs ts)/\1<=y/\y<=1000000))->Q (.ref r) H'))
section
variable {P:Program} {w:World} {K:zAb} {mg:Str->Option Value} {base:Heap}
theorem Rz:Bb ["_law_conds", "_law_word", "_law_found", "_law_cond_here", "_law_mark", "_law_value"] ["_law_conds", "_law_word"] (An Ii):=by injections
theorem Rr {f:Addr} {fd:zCt} (F:Fun K "_law_named" "_law_named" Ii f fd) (T:Txt K mg) (C_law_marks:Ct P w K mg base 4 "_law_marks" ["_law_cond_here"] (O9 3)):FnOk P w K mg base Dv 5 f fd ["_law_conds", "_law_word"] (Up K):=by
 have sc:=Rz;bv_omega
 ·obtain⟨_,_,_,_,rfl,_⟩:=h
  rfl
 obtain⟨a,us,ts,so,rfl,ha,tr,hg,l6,alt⟩:=h;refine⟨_,(Ae (Ba (i:=2) sc.nd rfl (Or.inl rfl) (Bq Af))
   (Ae (Dd PassesOwn.never rfl (Bn (pv 0)) (Bh (i:=3) sc.nd rfl (Or.inl rfl))
    (Aj (Dd PassesOwn.never rfl (Bn (Am C_law_marks (hr.mono (by decide)) rfl (Aa (pv 3) Af))) (Yj (n:=2) rfl (Et (Bh (i:=4) sc.nd rfl (Or.inl rfl)) (Et (Bh (i:=5) sc.nd rfl (Or.inl rfl)) Ov)))
    (Aj (Bm (PW.pt (Mv (Ay Db (pv 4) (pv 1) (Bd _)) (Mv (Ay Du (pv 5) (pv 2) rfl) (Lu (PW.pt (Dk (Ay Lq (pv 1) Bi (Bd _)) (Dn (Iz Ge Ge Ac (pv 5) (Ao Hw Ac Ac)))))))))
    (Aj (Fu (Oe PySem.F.plainAttrs_list PySem.F.slot_list_append PySem.F.type_list_append Fx (pv 2) (Aa (pv 5) Af))))
    Bc)))))
   (Aj (Au (Bg Uq rfl T.n_sorted (show zCs _=some (.builtin "sorted") from rfl) (Aa (pv 2) Af)))))),?_⟩
 have sl:=zCr;have e6:(10:Int)^(6:Int).toNat=1000000:=by ac_nf
 refine⟨zAC _,fun r nr=>?_⟩;refine Gk [some (.ref a),some (.str so),some (.ref r),none,none,none] rfl ?_;have s1:=Ag nr (.lst []);have h1:upd H r (.lst []) r=some (.lst []):=Ab;generalize upd H r (.lst [])=H1 at s1 h1;refine (vE rfl ⟨a,rfl,⟨_,SqL.of (s1 _ _ ha)⟩,?_⟩);refine Cm (K:=K) (a:=a) (xs:=us) (fun i σ H2=>(∃ o3 o4 o5,σ=[some (.ref a),some (.str so),some (.ref r),o3,o4,o5])/\Same H H2/\∃ fs,H2 r=some (.lst fs)/\Fnd so (marksTs (ts.take i)) fs) ⟨⟨none,none,none,rfl⟩,s1,[],h1,by rw[zAY,Dm]; exact⟨List.nodup_nil,fun v=>by simp [Bp]⟩⟩ (fun i σ H2 _ hh=>SqL.of (hh.2.1 _ _ ha)) ?_ ?_
 ·rintro i x σ H2 hi ⟨⟨o3,o4,o5,rfl⟩,s2,fs,h2,fn⟩
  obtain⟨t,ht,tr'⟩:=Oy tr hi;have mt:=zAu ht;have pt:=Im mt;refine Gk [some (.ref a),some (.str so),some (.ref r),some x,o4,o5] rfl ?_;refine (vE rfl ⟨x,t,rfl,TrAt.same s2 _ tr',hg t mt,by omega,fun l H3 s3 nl ⟨ys,h3,mk⟩=>⟨l,rfl,⟨_,SqL.of h3⟩,?_⟩⟩);have rl:r≠l:=At h2 nl;have wt:∀ m∈Bf t,AB m:=A5 t;have wts:∀ m∈marksTs (ts.take i),AB m:=isW_Ts _;refine Cm (K:=K) (a:=l) (xs:=ys) (fun j σ H4=>(∃ o4 o5,σ=[some (.ref a),some (.str so),some (.ref r),some x,o4,o5])/\KB r H3 H4/\∃ fs,H4 r=some (.lst fs)/\Fnd so (marksTs (ts.take i)++(Bf t).take j) fs) ⟨⟨o4,o5,rfl⟩,fun _ _ e _=>e,fs,s3 _ _ h2,by rw[zAY,zAT]; exact fn⟩ (fun i σ H4 _ hh=>SqL.of (hh.2.1 _ _ h3 (Ne.symm rl))) ?_ ?_
  ·rintro j y σ H4 hj ⟨⟨o4,o5,rfl⟩,k4,fs,h4,fn⟩
   have jl:j<(Bf t).length:=by have:=(zAp.mp hj).1; have:=mk.len; omega
   have em:(Bf t)[j]?=some (Bf t)[j]:=zAf jl;have wm:=wt _ (zBg jl);generalize (Bf t)[j]=m at em wm;obtain⟨tt,e1,h5⟩:=mk.get em;rw[hj] at e1;cases e1;have h5':=k4 _ _ h5 (fun z=>by rw[z,s3 _ _ h2] at h5; cases h5);refine⟨tt,_,rfl,SqT.of h5',rfl,vC rfl (vC rfl ⟨rfl,?_⟩)⟩;show (fun σ2 H2=>_) [some (.ref a),some (.str so),some (.ref r),some x,some (.str m.1),some m.2] H4;have wms:∀ q∈marksTs (ts.take i)++(Bf t).take j,AB q:=fun q hq=>by
    rcases zAW.mp hq with h | h
    ·exact wts q h
    ·exact wt q (List.mem_of_mem_take h)
   have pv:plain m.2:=Sq wm;have pf:∀ u∈fs,plain u:=fun u hu=>Sq (m:=(so,u)) (wms _ (Hl ((fn.mem u).mp hu).1));have next:∀ fs',Fnd so ((marksTs (ts.take i)++(Bf t).take j)++[m]) fs'->Fnd so (marksTs (ts.take i)++(Bf t).take (j+1)) fs':=fun fs' h=>by
    rw[Cd em,<- zBM];exact h
   refine (vE rfl (vE rfl ⟨rfl,vE rfl ?_⟩));by_cases c1:m.1=so
   ·refine dT (congrArg V.str c1) (vE rfl (vE rfl ⟨r,fs,rfl,.inl (SqL.of h4),R0 pv,Yt pf,vE rfl ?_⟩))
    show if (!Pn m.2 fs)=true then _ else _;rw[Qo pv pf];by_cases c2:m.2∈fs
    ·exact nF c2 (Cg ⟨⟨_,_,rfl⟩,k4,fs,h4,next fs (fn.old c1 c2)⟩)
    ·refine nT c2 (vE rfl ⟨rfl,vE rfl ?_⟩)
     have put:GD so m.2->∀ σ,(∃ o4 o5,σ=[some (.ref a),some (.str so),some (.ref r),some x,o4,o5])->(∃ o4 o5,σ=[some (.ref a),some (.str so),some (.ref r),some x,o4,o5])/\KB r H3 (upd H4 r (.lst (fs++[m.2])))/\∃ fs',upd H4 r (.lst (fs++[m.2])) r=some (.lst fs')/\Fnd so (marksTs (ts.take i)++(Bf t).take (j+1)) fs':=fun ok σ e=>⟨e,k4.upd _,_,Ab,next _ (fn.new c1 c2 ok)⟩;have lf:fs.length<sizeLine:=by
      have:=Es (m:=Bp so (marksTs (ts.take i)++(Bf t).take j)) fn.nd fun v hv=>((fn.mem v).mp hv).1;have w:=Eg so (marksTs (ts.take i)++(Bf t).take j);rw[zAe,zAB] at w;have:=Hn ts i;omega
     by_cases c3:V.str so=V.str "day"
     ·refine HF c3 ?_
      have c3':=V.str.inj c3;have wi:∃ y,m.2 = .int y:=Z6 wm (c1.trans c3');obtain⟨y,ey⟩:=wi;rw[ey] at put ⊢;refine (vE rfl (vF rfl rfl (vE rfl ?_)));by_cases c4:(1:Int)<=y
      ·refine dT c4 (vF rfl rfl ⟨⟨by decide,by decide,by decide⟩,vF rfl rfl (vE rfl ?_)⟩)
       by_cases c5:y<=(10:Int)^(6:Int).toNat
       ·refine dT c5 (vE rfl ⟨.inl ⟨rfl,_,SqL.of h4⟩,vE rfl ⟨r,fs,_,rfl,rfl,h4,lf,?_⟩⟩)
        exact put (.inr ⟨y,rfl,c4,by rw[e6] at c5; exact c5⟩) _ ⟨_,_,rfl⟩
       ·refine dF c5 ⟨⟨_,_,rfl⟩,k4,fs,h4,next fs (fn.no c1 fun h=>?_)⟩
        rcases h with h | ⟨z,e,z1,z2⟩
        ·exact h c3'
        ·rw[ey] at e
         cases e
         rw[e6] at c5;exact c5 z2
      ·refine dF c4 (vE rfl (Cg ⟨⟨_,_,rfl⟩,k4,fs,h4,next fs (fn.no c1 fun h=>?_)⟩))
       rcases h with h | ⟨z,e,z1,z2⟩
       ·exact h c3'
       ·rw[ey] at e
        cases e
        exact c4 z1
     ·refine HB c3 (Kn (vE rfl ⟨.inl ⟨rfl,_,SqL.of h4⟩,vE rfl ⟨r,fs,_,rfl,rfl,h4,lf,?_⟩⟩))
      exact put (.inl fun h=>c3 (congrArg V.str h)) _ ⟨_,_,rfl⟩
   ·exact dF (fun e=>c1 (V.str.inj e)) (Cg ⟨⟨_,_,rfl⟩,k4,fs,h4,next fs (fn.far c1)⟩)
  ·rintro σ H4 ⟨⟨o4,o5,rfl⟩,k4,fs,h4,fn⟩
   rw[mk.len,zAz] at fn;refine⟨⟨_,_,_,rfl⟩,fun x o e=>k4 _ _ (s3 _ _ (s2 _ _ e)) (At e nr),fs,h4,?_⟩;rw[Cd ht,Jd,Df,Dm,zAT];exact fn
 ·rintro σ H2 ⟨⟨o3,o4,o5,rfl⟩,s2,fs,h2,fn⟩
  rw[Lx tr,zAz] at fn;have lf:fs.length<64:=by
   have:=Es (m:=Bp so (marksTs ts)) fn.nd fun v hv=>((fn.mem v).mp hv).1;have w:=Eg so (marksTs ts);omega
  have wf:∀ u∈fs,AB (so,u):=fun u hu=>isW_Ts ts _ (Hl ((fn.mem u).mp hu).1);rcases alt with ⟨hso,q⟩ | ⟨hso,q⟩ | ⟨hso,q⟩
  ·obtain⟨ns,rfl⟩:=Ps (l:=fs) fun v hv=>by
    rcases wf v hv with ⟨_,e⟩ | ⟨e,_⟩
    ·exact e
    ·exfalso
     have e:so = "day" \/ so = "cents" := e;rcases hso with h | h <;> rcases e with e | e <;> exact absurd (h.symm.trans e) (by ac_nf)
   rw[zAa] at lf;have nd:ns.Nodup:=DW fn.nd;refine (vE rfl (.inr ⟨r,ns,rfl,SqL.of h2,lf,fun l ms nl pm so'=>?_⟩));refine q l ms _ (s2.trans (Ag nl _)) (s2.free nl) Ab (pm.nodup_iff.mpr nd) so' fun y=>?_;rw[pm.mem_iff,<- Qb,fn.mem];exact⟨fun h=>h.1,fun h=>⟨h,.inl fun e=>by rcases hso with h | h <;> exact absurd (h.symm.trans e) (by ac_nf)⟩⟩
  ·obtain⟨ns,rfl⟩:=Ld (l:=fs) fun v hv=>by
    rcases wf v hv with ⟨e,_⟩ | ⟨_,e⟩
    ·exfalso
     have e:so = "cause" \/ so = "thing" := e;rcases e with e | e <;> exact absurd (hso.symm.trans e) (by ac_nf)
    ·exact e
   rw[zAa] at lf;have nd:ns.Nodup:=Q8 fn.nd;refine (vE rfl (.inl ⟨r,ns,rfl,SqL.of h2,lf,fun l ms nl pm pw=>?_⟩));refine q l ms _ (s2.trans (Ag nl _)) (s2.free nl) Ab (Eu pw (pm.nodup_iff.mpr nd)) fun y=>?_;rw[pm.mem_iff,<- Ly,fn.mem];exact⟨fun h=>h.1,fun h=>⟨h,.inl fun e=>absurd (hso.symm.trans e) (by ac_nf)⟩⟩
  ·obtain⟨ns,rfl⟩:=Ld (l:=fs) fun v hv=>by
    rcases wf v hv with ⟨e,_⟩ | ⟨_,e⟩
    ·exfalso
     have e:so = "cause" \/ so = "thing" := e;rcases e with e | e <;> exact absurd (hso.symm.trans e) (by ac_nf)
    ·exact e
   rw[zAa] at lf;have nd:ns.Nodup:=Q8 fn.nd;refine (vE rfl (.inl ⟨r,ns,rfl,SqL.of h2,lf,fun l ms nl pm pw=>?_⟩));refine q l ms _ (s2.trans (Ag nl _)) (s2.free nl) Ab (Eu pw (pm.nodup_iff.mpr nd)) fun y=>?_;rw[pm.mem_iff,<- Ly,fn.mem];refine⟨fun h=>⟨h.1,?_⟩,fun h=>⟨h.1,.inr ⟨y,rfl,h.2⟩⟩⟩;rcases h.2 with e | ⟨z,e,h2⟩
   ·exact absurd hso e
   ·cases e
    exact h2
def likeL (H:Hp) (f d:Addr) (bt:Bool):Prop:=(bt=true/\∃ zs:List Str,H f=some (.lst (List.map V.str zs))/\H d=some (.lst (List.map V.str zs))/\zs.length<=60)\/(bt=false/\∃ zs:List Int,H f=some (.lst (List.map V.int zs))/\H d=some (.lst (List.map V.int zs))/\zs.length<=60)
theorem likeL.same {H H':Hp} {f d:Addr} {bt:Bool} (h:likeL H f d bt) (s:Same H H'):likeL H' f d bt:=by
 rcases h with ⟨e,zs,h1,h2,l⟩ | ⟨e,zs,h1,h2,l⟩
 ·exact .inl ⟨e,zs,s _ _ h1,s _ _ h2,l⟩
 ·exact .inr ⟨e,zs,s _ _ h1,s _ _ h2,l⟩
def V6:Sp:=fun vs H Q _=>∃ f d bt,vs=[.ref f,.ref d,.bl bt]/\likeL H f d bt/\Q (.bl true) H
def Yi:Sp:=fun vs H Q _=>∃ t m a b c d a' b' c' d',vs=[.ref t,.ref m]/\H t=some (.tup [.ref a,.ref b,.ref c,.ref d])/\H m=some (.lst [.ref a',.ref b',.ref c',.ref d'])/\likeL H a a' true/\likeL H b b' true/\likeL H c c' false/\likeL H d d' false/\∀ H',Same H H'->Q (.bl true) H'
theorem Te:Bb ["_law_found", "_law_due", "_law_text", "_law_one"] ["_law_found", "_law_due", "_law_text"] (An Jf):=by injections
theorem Th {f:Addr} {fd:zCt} (F:Fun K "_law_list" "_law_list" Jf f fd) (T:Txt K mg) (C_law_whole:Ct P w K mg base 1 "_law_whole" ["_law_found"] (Ft K)):FnOk P w K mg base Dv 2 f fd ["_law_found", "_law_due", "_law_text"] V6:=by
 have sc:=Te;bv_omega
 ·obtain⟨_,_,_,rfl,_⟩:=h
  rfl
 have hu:=Xo hr;obtain⟨fo,du,bt,rfl,lk,q⟩:=h;refine⟨_,(Ae (Bm (PW.pt (Dk (Bz (Bx (Bg Bt rfl T.n_isinstance (show zCs _=some (.builtin "isinstance") from rfl) (Aa (pv 0) (Aa (Fn "list" rfl T.n_list rfl) Af))))) (Dn (Ay (N4 hu) (pv 0) (pv 1) (Bd _)))))
    (Aj (Au Cp))
    Bc)
   (Ae (Dd PassesOwn.never rfl (Bn (pv 0)) (Bh (i:=3) sc.nd rfl (Or.inl rfl))
    (Aj (Bm (PW.pt (Dk (PW.pt (Mv (Bx (pv 2)) (Lu (Bz (Bx (Bg Bt rfl T.n_isinstance (show zCs _=some (.builtin "isinstance") from rfl) (Aa (pv 3) (Aa (Fn "str" rfl T.n_str rfl) Af)))))))) (Dn (PW.pt (Mv (Bz (Bx (pv 2))) (Lu (Bz (Bx (Am C_law_whole (hr.mono (by decide)) rfl (Aa (pv 3) Af))))))))))
    (Aj (Au Cp))
    Bc)))
   (Aj (Au Cp)))),?_⟩
 have kind:∃ xs:List V,H fo=some (.lst xs)/\H du=some (.lst xs)/\xs.all Ci=true/\((bt=true/\∀ x∈xs,∃ z,x = .str z)\/(bt=false/\∀ x∈xs,∃ n,x = .int n)):=by
  rcases lk with ⟨e,zs,h1,h2,_⟩ | ⟨e,zs,h1,h2,_⟩
  ·exact⟨_,h1,h2,Cy zs,.inl ⟨e,fun x hx=>by obtain⟨z,_,rfl⟩:=zAA.mp hx; exact⟨z,rfl⟩⟩⟩
  ·exact⟨_,h1,h2,Ep zs,.inr ⟨e,fun x hx=>by obtain⟨z,_,rfl⟩:=zAA.mp hx; exact⟨z,rfl⟩⟩⟩
 obtain⟨xs,h1,h2,fl,kd⟩:=kind;refine (vE rfl ⟨_,_,_,_,_,rfl,Fm,.lst h1,Tz,vE rfl (Cg ?_)⟩);refine (vE rfl (vE rfl ⟨fo,du,xs,xs,rfl,rfl,SqL.of h1,SqL.of h2,fl,fl,vE rfl ?_⟩));refine (show (if (!Np xs xs)=true then _ else _) from ?_);rw[Hj fl];refine Cg ?_;refine (vE rfl ⟨fo,rfl,⟨_,SqL.of h1⟩,Cm (K:=K) (a:=fo) (xs:=xs) (fun i σ H2=>(∃ o,σ=[some (.ref fo),some (.ref du),some (.bl bt),o])/\H2=H) ⟨⟨none,rfl⟩,rfl⟩ (fun i σ H2 _ ⟨_,e⟩=>by rw[e]; exact SqL.of h1) ?_ ?_⟩)
 ·rintro i x σ H2 hi ⟨⟨o,rfl⟩,rfl⟩
  refine Gk [some (.ref fo),some (.ref du),some (.bl bt),some x] rfl ?_;rcases kd with ⟨rfl,k⟩ | ⟨rfl,k⟩
  ·obtain⟨z,rfl⟩:=k x (zAu hi)
   refine (vE rfl (vE rfl (Kn (vE rfl ⟨_,_,_,_,_,rfl,Fm,.str z,Ut,vE rfl ?_⟩))));refine Cg (vE rfl (vE rfl (Cg (Cg ?_))));exact⟨⟨_,rfl⟩,rfl⟩
  ·obtain⟨n,rfl⟩:=k x (zAu hi)
   refine (vE rfl (vE rfl (Cg (Cg (vE rfl (vE rfl (Kn (vE rfl ⟨_,_,rfl,.int n,vE rfl (Cg ?_)⟩))))))));exact⟨⟨_,rfl⟩,rfl⟩
 ·rintro σ H2 ⟨⟨o,rfl⟩,rfl⟩
  exact q
theorem Ko:Bb ["_law_told", "_law_marks_here"] ["_law_told", "_law_marks_here"] (An Em):=by injections
theorem Kt {f:Addr} {fd:zCt} (F:Fun K "_law_told_marks" "_law_told_marks" Em f fd) (T:Txt K mg) (C_law_list:Ct P w K mg base 2 "_law_list" ["_law_found", "_law_due", "_law_text"] V6):FnOk P w K mg base Dv 3 f fd ["_law_told", "_law_marks_here"] Yi:=by
 have sc:=Ko;bv_omega
 ·obtain⟨_,_,_,_,_,_,_,_,_,_,rfl,_⟩:=h
  rfl
 obtain⟨t,m,a,b,c,d,a',b',c',d',rfl,ht,hm,la,lb,lc,ld,q⟩:=h;refine⟨_,(Ae (Bm (PW.pt (Dk (Bz (Bx (Bg Bt rfl T.n_isinstance (show zCs _=some (.builtin "isinstance") from rfl) (Aa (pv 0) (Aa (Fn "tuple" rfl T.n_tuple rfl) Af))))) (Dn (Ay Lq (Bg Bk rfl T.n_len (show zCs _=some (.builtin "len") from rfl) (Aa (pv 0) Af)) Ac (Bd _)))))
    (Aj (Au Cp))
    Bc)
   (Aj (Au (Dg Du Cp (Da (NC:=["_law_k", "_law_told", "_law_marks_here"]) (own:=["_law_k"]) (cs:=["_law_told", "_law_marks_here"]) (ix:=[0,1]) rfl (CompScope.of rfl) rfl ⟨⟨rfl,.inl rfl,rfl⟩,⟨⟨rfl,.inl rfl,rfl⟩,trivial⟩⟩ (Di rfl T.n_range (Aa Ac Af)) (fun _ _ _=>(Bh (i:=0) (show (["_law_k", "_law_told", "_law_marks_here"]:List Str).Nodup from by ac_nf) rfl (Or.inl rfl))) (fun _ _ _=>Cr) (fun _ _ _=>(Am C_law_list (hr.mono (by decide)) rfl (Aa (Av (Gn (K:=K) rfl) (pv 1) (pv 0) (fun _ _=>rfl)) (Aa (Av (Jb (K:=K) rfl) (pv 2) (pv 0) (fun _ _=>rfl)) (Aa (Dg Ip (pv 0) Ac (Bd _)) Af)))))) rfl)))),?_⟩
 refine (vE rfl ⟨_,_,_,_,_,rfl,Fm,.tup ht,Us,vE rfl (Cg ?_)⟩);refine (vE rfl ⟨t,_,rfl,.inr (SqT.of ht),rfl,vE rfl (nF rfl ?_)⟩);refine⟨_,rfl,by decide,by decide,fun p np=>?_⟩;have four:∀ i:Nat,i<4->∃ x y,Nt [V.ref a,.ref b,.ref c,.ref d] (0+(i:Int))=some (.ref x)/\Nt [V.ref a',.ref b',.ref c',.ref d'] (0+(i:Int))=some (.ref y)/\likeL H x y (decide ((0:Int)+(i:Int)<2)):=fun i hi=>by
  have z:i=0\/i=1\/i=2\/i=3:=by lia
  rcases z with rfl | rfl | rfl | rfl
  ·exact⟨a,a',rfl,rfl,la⟩
  ·exact⟨b,b',rfl,rfl,lb⟩
  ·exact⟨c,c',rfl,rfl,lc⟩
  ·exact⟨d,d',rfl,rfl,ld⟩
 refine Eo (lo:=0) (n:=4) (fun i ys H6=>ys=(zAD i true).map V.bl/\H6 p=some (.lst ys)/\Same H H6) ⟨rfl,Ab,Ag np _⟩
  (fun i ys H6 _ ⟨e,h1,_⟩=>⟨h1,by rw[e,zAa,zAS]; exact zAg _⟩) (by rw[zCr]; lia) (fun i ys H6 hi ⟨e,h1,s2⟩=>?_) (fun ys H6 ⟨e,h1,s2⟩=>?_)
 ·obtain⟨x,y,ex,ey,lk⟩:=four i hi
  refine (vE rfl (vE rfl (vI rfl rfl (SqT.of (s2 _ _ ht)) ex (vE rfl (vE rfl (vI rfl rfl (SqL.of (s2 _ _ hm)) ey (vE rfl (vF rfl rfl ⟨x,y,_,rfl,likeL.same lk s2,h1,rfl,?_,Ab,Bv np s2⟩))))))));rw[List.replicate_succ',zAn,e];rfl
 ·refine⟨p,ys,rfl,.inl (SqL.of h1),rfl,?_,?_⟩
  ·rw[e]
   rfl
  ·rw[e,M1]
   exact q _ s2
def Pb:Sp:=fun vs H Q _=>∃ a ns,vs=[.ref a]/\H a=some (.lst (List.map V.str ns))/\ns.length<=60/\∀ n,fstN ns n->Q (.str n) H
abbrev abcS:Str := "abcdefghijklmnopqrstuvwxyz"
theorem AS:∀ i:Fin 61,Nt abcS.cps.toList ((i.val:Int)%26)=some (97+i.val%26)/\((i.val<=25/\(⟨#[97+i.val%26]⟩:Str)=tx (Gm i.val))\/(25<i.val/\Nt abcS.cps.toList ((i.val:Int)/26-1)=some (96+i.val/26)/\(⟨#[96+i.val/26]⟩:Str)++(⟨#[97+i.val%26]⟩:Str)=tx (Gm i.val))):=by ac_nf
theorem N7 {ns:List Str} {i:Nat} (l6:ns.length<=60) (h:∀ j,j<i->tx (Gm j)∈ns):i<=60:=by
 rcases zBJ 60 i with c | c
 ·have:=T9 (ns:=ns) (p:=61) (by lia) fun j hj=>h j (by lia)
  lia
 ·exact c
theorem Rg:Bb ["_law_names_here", "_law_letters", "_law_k", "_law_name"] ["_law_names_here"] (An Ie):=by injections
theorem Sc {f:Addr} {fd:zCt} (F:Fun K "_law_other" "_law_other" Ie f fd) (T:Txt K mg):FnOk P w K mg base Dv 1 f fd ["_law_names_here"] Pb:=by
 have sc:=Rg;bv_omega
 ·obtain⟨_,_,rfl,_⟩:=h
  rfl
 obtain⟨a,ns,rfl,ha,l6,q⟩:=h;refine⟨_,(Ae (Ba (i:=1) sc.nd rfl (Or.inl rfl) Bi)
   (Ae (Dd PassesOwn.never rfl (Di rfl T.n_range (Aa Ac Af)) (Bh (i:=2) sc.nd rfl (Or.inl rfl))
    (Ae (Ba (i:=3) sc.nd rfl (Or.inl rfl) (Av Pz (pv 1) (Ao Br (pv 2) Ac) (fun _ _=>rfl)))
   (Ae (Bm (Ay Rc (pv 2) Ac (Bd _))
    (Aj (Ba (i:=3) sc.nd rfl (Or.inl rfl) (Ao Ke (Av Pz (pv 1) (Ao Fy (Ao By (pv 2) Ac) Ac) (fun _ _=>rfl)) (pv 3))))
    Bc)
   (Aj (Bm (Ay Du (pv 3) (pv 0) rfl)
    (Aj (Au (pv 3)))
    Bc)))))
   (Aj (Au Bi)))),?_⟩
 have sl:=zCr;have la:abcS.length<=sizeLine:=by rw[sl]; decide +kernel
 refine J4 [some (.ref a),some (.str abcS),none,none] rfl ?_;refine⟨_,rfl,by decide,by decide,?_⟩;refine Jq (lo:=0) (n:=702) (fun i σ H2=>(∃ o2 o3,σ=[some (.ref a),some (.str abcS),o2,o3])/\H2=H/\∀ j,j<i->tx (Gm j)∈ns) ⟨⟨none,none,rfl⟩,rfl,fun j h=>absurd h (zBc _)⟩ ?_ ?_
 ·rintro i σ H2 hi ⟨⟨o2,o3,rfl⟩,rfl,all⟩
  have i6:=N7 l6 all;obtain⟨h1,h2⟩:=AS ⟨i,by lia⟩;have h1:Nt abcS.cps.toList ((i:Int)%26)=some (97+i%26):=h1;refine Gk [some (.ref a),some (.str abcS),some (.int (0+(i:Int))),o3] rfl ?_;rw[show (0+(i:Int))=(i:Int) by lia];refine (vE rfl (vE rfl (vF rfl rfl ⟨(by show (0:Int)<26; decide),_,_,_,rfl,rfl,la,h1,?_⟩)));refine Gk [some (.ref a),some (.str abcS),some (.int (i:Int)),some (.str ⟨#[97+i%26]⟩)] rfl ?_;have last:∀ n:Str,n=tx (Gm i)->ES (C0 (Tb (GS K true) (Fz 3) (Fz 0))) (Zh (Fz 3)) BO { nx:=fun σ H'=>(∃ o2 o3,σ=[some (.ref a),some (.str abcS),o2,o3])/\H'=H2/\∀ j,j<i+1->tx (Gm j)∈ns,rt:=Q,bk:=Zh (tC (V.str "")) { nx:=fun x H'=>Q V.non H',rt:=Q },ct:=fun σ H'=>(∃ o2 o3,σ=[some (.ref a),some (.str abcS),o2,o3])/\H'=H2/\∀ j,j<i+1->tx (Gm j)∈ns } [some (.ref a),some (.str abcS),some (.int (i:Int)),some (.str n)] H2:=fun n e=>by
   refine (vE rfl (vE rfl ⟨a,_,rfl,.inl (SqL.of ha),rfl,Cy ns,vE rfl ?_⟩));show if (!Pn (.str n) (ns.map V.str))=true then _ else _;rw[Tf];by_cases c:n∈ns
   ·refine nF c ⟨⟨_,_,rfl⟩,rfl,fun j hj=>?_⟩
    rcases Nat.lt_succ_iff_lt_or_eq.mp hj with h | h
    ·exact all j h
    ·rw[h,<- e]
     exact c
   ·exact nT c (vE rfl (q n ⟨i,i6,e,by rw[<- e]; exact c,all⟩))
  refine (vE rfl (vF rfl rfl (vE rfl ?_)));rcases h2 with ⟨h2,h3⟩ | ⟨h2,h3,h4⟩
  ·have h2:i<=25:=h2
   refine dF (by show ¬ (25:Int)<(i:Int); lia) ?_;exact last _ h3
  ·have h2:25<i:=h2
   have h3:Nt abcS.cps.toList ((i:Int)/26-1)=some (96+i/26):=h3;refine dT (by show (25:Int)<(i:Int); lia) ?_;refine (vE rfl (vE rfl (vF rfl rfl ⟨⟨by decide,by decide⟩,vF rfl rfl ⟨_,_,_,rfl,rfl,la,h3,vE rfl (vF rfl rfl ⟨by rw[sl]; show 1+1<=_; lia,?_⟩)⟩⟩)));refine Gk [some (.ref a),some (.str abcS),some (.int (i:Int)),some (.str ((⟨#[96+i/26]⟩:Str)++(⟨#[97+i%26]⟩:Str)))] rfl ?_;exact last _ h4
 ·rintro σ H2 ⟨⟨o2,o3,rfl⟩,rfl,all⟩
  have:=N7 l6 all
  lia
def EE:Sp:=fun vs H Q _=>∃ t ca th d,∃ fi la:Int,∃ D:List Int,vs=[.ref t,.str ca,.str th,.int fi,.ref d]/\H t=some (.tup (Cf ca th (fi,la)))/\H d=some (.lst (List.map V.int D))/\D.length<=60/\fi<=la/\(∀ y∈D,¬ (fi<y/\y<=la))/\(la=1000000\/la+1∈D)/\∀ H',Same H H'->Q (.bl true) H'
def FT (H:Hp) (m:Addr) (A B:List Str) (D E:List Int):Prop:=∃ a b c d,H m=some (.lst [.ref a,.ref b,.ref c,.ref d])/\H a=some (.lst (List.map V.str A))/\H b=some (.lst (List.map V.str B))/\H c=some (.lst (List.map V.int D))/\H d=some (.lst (List.map V.int E))
def DD (D:List Int):Prop:=D.Pairwise (· < ·)/\∀ y∈D,1<=y/\y<=1000000
def P7:Sp:=fun vs H Q _=>∃ c m xs,∃ A B:List Str,∃ D E:List Int,vs=[.ref c,.ref m]/\H c=some (.lst xs)/\Tps H xs (Cu B D (A++[("" : Str)]))/\FT H m A B D E/\DD D/\A.length<=60/\B.length<=60/\D.length<=60/\∀ H',Same H H'->Q (.bl true) H'
theorem Ph {α β:Type} {f:α->List β} {k:Nat} (h:∀ x,(f x).length=k):∀ {l:List α} {i j:Nat} {x:α} {y:β},l[i]?=some x->(f x)[j]?=some y->(l.map f).flatten[i*k+j]?=some y
 | [],_,_,_,_,e,_=>by simp at e
 | z::l,0,j,x,y,e,g=>by
  simp at e;subst e;rw[zAw,zBi,Nat.zero_mul,Nat.zero_add,zBa (zAp.mp g).1];exact g
 | z::l,i+1,j,x,y,e,g=>by
  rw[zAL] at e;rw[zAw,zBi,zAQ (by rw[h,zBO]; lia),h];have:(i+1)*k+j-k=i*k+j:=by rw[zBO]; lia
  rw[this];exact Ph h e g
theorem Yr {As B:List Str} {D:List Int} {i j k:Nat} {ca th:Str} {pr:Int×Int} (h1:As[i]?=some ca) (h2:(B++[("" : Str)])[j]?=some th) (h3:(Ck D)[k]?=some pr):(Cu B D As)[i*((B.length+1)*(D.length+1))+(j*(D.length+1)+k)]?=some (Cf ca th pr):=by
 refine Ph (f:=fun ca=>Fi ca D (B++[("" : Str)])) (fun x=>by rw[Kq,zAe]; rfl) h1 ?_;refine Ph (f:=fun th=>(Ck D).map (Cf ca th)) (fun x=>by rw[zAa,Dp]) h2 ?_;rw[zAl,h3];rfl
theorem Q9 (D:List Int):∃ la,(Ck D)[0]?=some (0,la):=by
 unfold Ck;cases D with
 | nil=>exact⟨_,rfl⟩
 | cons d D=>exact⟨_,rfl⟩
theorem D8 {D:List Int} (od:DD D) {k:Nat} {fi la:Int} (h:(Ck D)[k]?=some (fi,la)):fi<=la/\(∀ y∈D,¬ (fi<y/\y<=la))/\(la=1000000\/la+1∈D)/\(k+1<D.length+1->∃ la',(Ck D)[k+1]?=some (la+1,la'))/\(k+1=D.length+1->la=1000000):=by
 unfold Ck at h ⊢;obtain⟨h1,h2⟩:=zCe.mp h;have kl:k<D.length+1:=by
  have:=(zAp.mp h1).1;rw[zAj] at this;exact this
 have pw:=zBN.mp od.1;have F:∀ m (hm:m<D.length),(m<k->D[m]<=fi)/\(k<=m->fi<D[m]):=fun m hm=>by
  have b:=od.2 _ (zBg hm);cases k with
  | zero=>
   have e:(0:Int)=fi:=by simpa using h1
   exact⟨fun h=>absurd h (zBc _),fun _=>by lia⟩
  | succ k'=>
   rw[zAL] at h1;obtain⟨hk,e⟩:=zAp.mp h1;have e:D[k']=fi:=e;refine⟨fun h=>?_,fun h=>?_⟩
   ·rcases zBJ m k' with c | c
    ·have:=pw m k' hm hk c
     lia
    ·have z:m=k':=by lia
     subst z
     lia
   ·have:=pw k' m hk hm (by lia)
    lia
 have f0:0<=fi:=by
  cases k with
  | zero=>
   have e:(0:Int)=fi:=by simpa using h1
   lia
  | succ k'=>
   rw[zAL] at h1;have:=(od.2 _ (zAu h1)).1;exact Int.le_trans (by decide) this
 have f6:fi<=1000000:=by
  cases k with
  | zero=>
   have e:(0:Int)=fi:=by simpa using h1
   lia
  | succ k'=>
   rw[zAL] at h1;exact (od.2 _ (zAu h1)).2
 have lm:(D.map (· - 1)).length=D.length:=zAa _;by_cases c:k<D.length
 ·have e:D[k]-1=la:=by
   rw[zBa (by lia),zAl,zAf c] at h2
   simpa using h2
  have e1:la+1=D[k]:=by lia
  refine⟨by have:=(F k c).2 (zAg _); lia,fun y hy ⟨g1,g2⟩=>?_,.inr (by rw[e1]; exact zBg c),fun _=>?_,fun h=>by lia⟩
  ·obtain⟨m,hm,rfl⟩:=zBh hy
   rcases zBJ m k with z | z
   ·have:=(F m hm).1 z
    lia
   ·rcases zBJ k m with z2 | z2
    ·have:=pw k m c hm z2
     lia
    ·have z3:m=k:=by lia
     subst z3
     lia
  ·have l2:k+1<(D.map (· - 1)++[(1000000:Int)]).length:=by rw[zAe,lm]; show _<_+1; lia
   refine⟨(D.map (· - 1)++[(1000000:Int)])[k+1],zCe.mpr ⟨?_,zAf l2⟩⟩;rw[zAL,zAf c];exact congrArg some e1.symm
 ·have kd:k=D.length:=by lia
  have e:(1000000:Int)=la:=by
   rw[zAQ (by lia),lm,kd,Nat.sub_self] at h2
   simpa using h2
  refine⟨by lia,fun y hy ⟨g1,g2⟩=>?_,.inl e.symm,fun h=>by lia,fun _=>e.symm⟩;obtain⟨m,hm,rfl⟩:=zBh hy;have:=(F m hm).1 (by lia)
  lia
theorem We (bs:List Bool):(bs.map V.bl).all Ci=true:=by
 rw[zBI];intro x hx;obtain⟨n,_,rfl⟩:=zAA.mp hx;rfl
theorem Kj:Bb ["_law_cell_here", "_law_cause", "_law_thing", "_law_day", "_law_days"] ["_law_cell_here", "_law_cause", "_law_thing", "_law_day", "_law_days"] (An Ei):=by injections
theorem Kw {f:Addr} {fd:zCt} (F:Fun K "_law_cell_right" "_law_cell_right" Ei f fd) (T:Txt K mg) (C_law_whole:Ct P w K mg base 1 "_law_whole" ["_law_found"] (Ft K)):FnOk P w K mg base Dv 2 f fd ["_law_cell_here", "_law_cause", "_law_thing", "_law_day", "_law_days"] EE:=by
 have sc:=Kj;bv_omega
 ·obtain⟨_,_,_,_,_,_,_,rfl,_⟩:=h
  rfl
 have hu64:=Ow hr;obtain⟨t,ca,th,d,fi,la,D,rfl,ht,hd,l6,fl,no,en,q⟩:=h;refine⟨_,(Ae (Bm (PW.pt (Dk (Bz (Bx (Bg Bt rfl T.n_isinstance (show zCs _=some (.builtin "isinstance") from rfl) (Aa (pv 0) (Aa (Fn "tuple" rfl T.n_tuple rfl) Af))))) (Dn (Ay Lq (Bg Bk rfl T.n_len (show zCs _=some (.builtin "len") from rfl) (Aa (pv 0) Af)) Ac (Bd _)))))
    (Aj (Au Cp))
    Bc)
   (Ae (Bm (PW.pt (Dk (Bz (Bx (Bg Bt rfl T.n_isinstance (show zCs _=some (.builtin "isinstance") from rfl) (Aa (Av Be (pv 0) Ac (fun _ _=>rfl)) (Aa (Fn "str" rfl T.n_str rfl) Af))))) (Dn (Bz (Bx (Bg Bt rfl T.n_isinstance (show zCs _=some (.builtin "isinstance") from rfl) (Aa (Av Be (pv 0) Ac (fun _ _=>rfl)) (Aa (Fn "str" rfl T.n_str rfl) Af))))))))
    (Aj (Au Cp))
    Bc)
   (Ae (Bm (PW.pt (Dk (Bz (Bx (Am C_law_whole (hr.mono (by decide)) rfl (Aa (Av Be (pv 0) Ac (fun _ _=>rfl)) Af)))) (Dk (Bz (Bx (Am C_law_whole (hr.mono (by decide)) rfl (Aa (Av Be (pv 0) Ac (fun _ _=>rfl)) Af)))) (Dk (Ay (DQ (K:=K) hu64) (Hf M9 (pv 0) Lz (Hv Ac)) (Cj (Aa (pv 1) (Aa (pv 2) (Aa (pv 3) Af)))) (Bd _)) (Dn (Ay Ip (Av Be (pv 0) Ac (fun _ _=>rfl)) (pv 3) (Bd _)))))))
    (Aj (Au Cp))
    Bc)
   (Ae (Bm (Ay Hh Cp (Da (NC:=["_law_mark", "_law_day", "_law_cell_here"]) (own:=["_law_mark"]) (cs:=["_law_day", "_law_cell_here"]) (ix:=[3,0]) rfl (CompScope.of rfl) rfl ⟨⟨rfl,.inl rfl,rfl⟩,⟨⟨rfl,.inl rfl,rfl⟩,trivial⟩⟩ (Bn (pv 4)) (fun _ _ _=>(Bh (i:=0) (show (["_law_mark", "_law_day", "_law_cell_here"]:List Str).Nodup from by ac_nf) rfl (Or.inl rfl))) (fun _ _ _=>Cr) (fun _ _ _=>(Po Ip Ge (pv 1) (pv 0) (Av (Gn (K:=K) rfl) (pv 2) Ac (fun _ _=>rfl))))) rfl)
    (Aj (Au Cp))
    Bc)
   (Aj (Au (FZ (Dg Db (Av Be (pv 0) Ac (fun _ _=>rfl)) (Ao Hw Ac Ac) (Bd _)) (Me (Dg Hh (Ao Ca (Av Be (pv 0) Ac (fun _ _=>rfl)) Ac) (pv 4) rfl))))))))),?_⟩
 have sl:=zCr;have ht:H t=some (.tup [.str ca,.str th,.int fi,.int la]):=ht;refine (vE rfl ⟨_,_,_,_,_,rfl,Fm,.tup ht,Us,vE rfl (Cg ?_)⟩);refine (vE rfl ⟨t,_,rfl,.inr (SqT.of ht),rfl,vE rfl (nF rfl ?_)⟩);refine (vE rfl (vI rfl rfl (SqT.of ht) rfl ⟨_,_,_,_,_,rfl,Fm,.str ca,Ut,vE rfl (Cg ?_)⟩));refine (vE rfl (vI rfl rfl (SqT.of ht) rfl ⟨_,_,_,_,_,rfl,Fm,.str th,Ut,vE rfl (Cg ?_)⟩));refine (vE rfl (vI rfl rfl (SqT.of ht) rfl ⟨_,_,rfl,.int fi,vE rfl (Cg ?_)⟩));refine (vE rfl (vI rfl rfl (SqT.of ht) rfl ⟨_,_,rfl,.int la,vE rfl (Cg ?_)⟩));refine (vE rfl (vE rfl ⟨t,_,rfl,SqT.of ht,fun h=>absurd (show (3:Nat)=4 from h.2) (by decide),fun p1 n1=>?_⟩));have s1:=Ag n1 (.tup [V.str ca,.str th,.int fi]);have g1:upd H p1 (.tup [V.str ca,.str th,.int fi]) p1=some (.tup [V.str ca,.str th,.int fi]):=Ab;refine (vE rfl (vE rfl (vE rfl ⟨Ce (by show 3<=1000; decide),fun p2 n2=>?_⟩)));have s2:=Ag n2 (.tup [V.str ca,.str th,.int fi]);refine⟨true,_,_,Ic (s2 _ _ g1) rfl,Ic (K:=K) (vs:=[V.str ca,.str th,.int fi]) Ab rfl,by rw[Fw]; decide,vE rfl ?_⟩;refine (show (if (!eqDs ([V.str ca,.str th,.int fi].map L2.D.at) ([V.str ca,.str th,.int fi].map L2.D.at))=true then _ else _) from ?_);rw[Gz,Hj (xs:=[V.str ca,.str th,.int fi]) rfl];refine Cg ?_;have S2:=s1.trans s2;have ht2:=S2 _ _ ht;have hd2:=S2 _ _ hd;generalize upd (upd H p1 (.tup (Hd [V.str ca,.str th,.int fi,.int la] none (some 3)))) p2 (.tup [V.str ca,.str th,.int fi])=H2 at S2 ht2 hd2;refine (vE rfl (vI rfl rfl (SqT.of ht2) rfl (vE rfl (vF rfl rfl (vE rfl (dF (by lia) ?_))))))
 have lm:(D.map V.int).length=D.length:=zAa _;refine (vE rfl ⟨d,rfl,⟨_,SqL.of hd2⟩,fun p np=>?_⟩);refine Cc (K:=K) (a:=d) (xs:=D.map V.int) (fun i ys H3=>ys=(zAD i false).map V.bl/\H3 p=some (.lst ys)/\Same H2 H3) ⟨rfl,Ab,Ag np _⟩
  (fun i ys H3 _ ⟨e,h1,s3⟩=>⟨h1,by rw[e,zAa,zAS]; exact zAg _,SqL.of (s3 _ _ hd2)⟩) (by rw[lm]; lia) (fun i v ys H3 hi ⟨e,h1,s3⟩=>?_) (fun ys H3 ⟨e,h1,s3⟩=>?_)
 ·rw[zAl] at hi
  obtain⟨y,hy,rfl⟩:=zAy.mp hi;have ny:=no y (zAu hy);have more:∀ H4,Same H3 H4->H4 p=some (.lst ys)->ys++[V.bl false]=(zAD (i+1) false).map V.bl/\upd H4 p (.lst (ys++[V.bl false])) p=some (.lst (ys++[V.bl false]))/\Same H2 (upd H4 p (.lst (ys++[V.bl false]))):=fun H4 s4 h4=>⟨by rw[List.replicate_succ',zAn,e]; rfl,Ab,Bv np (s3.trans s4)⟩;refine (vE rfl (vE rfl (vF rfl rfl (vE rfl ?_))));by_cases c1:fi<y
  ·refine dT c1 (vE rfl (vI rfl rfl (SqT.of (s3 _ _ ht2)) rfl (vF rfl rfl ⟨h1,rfl,?_⟩)))
   have c2:¬ y<=la:=fun h=>ny ⟨c1,h⟩;show ys++[V.bl (decide (y<=la))]=_/\upd H3 p (.lst (ys++[V.bl (decide (y<=la))])) p=some (.lst (ys++[V.bl (decide (y<=la))]))/\Same H2 (upd H3 p (.lst (ys++[V.bl (decide (y<=la))])));rw[decide_eq_false c2];exact more H3 (Same.refl _) h1
  ·refine dF c1 ⟨h1,rfl,?_⟩
   exact more H3 (Same.refl _) h1
 ·have any:Pn (.bl true) ys=false:=by
   rw[e,Vd,List.any_replicate];simp
  refine⟨p,ys,rfl,.inl (SqL.of h1),rfl,by rw[e]; exact We _,vE rfl ?_⟩;refine (show (if Pn (.bl true) ys=true then _ else _) from ?_);rw[any];refine Cg ?_;have S3:=S2.trans s3;have e6:(10:Int)^(6:Int).toNat=1000000:=by ac_nf
  refine (vE rfl (vI rfl rfl (SqT.of (s3 _ _ ht2)) rfl (vF rfl rfl ⟨⟨by decide,by decide,by decide⟩,rfl,vE rfl ?_⟩)));by_cases c:V.int la=V.int ((10:Int)^(6:Int).toNat)
  ·exact dT c (q _ S3)
  ·refine dF c (vE rfl (vI rfl rfl (SqT.of (s3 _ _ ht2)) rfl (vF rfl rfl (vE rfl ⟨d,_,rfl,.inl (SqL.of (s3 _ _ hd2)),rfl,Ep D,?_⟩))))
   have ev:Pn (.int (la+1)) (D.map V.int)=true:=by
    rw[C1];exact decide_eq_true (en.resolve_left fun h=>c (by rw[h,e6]))
   show Q (V.bl (Pn (.int (la+1)) (D.map V.int))) H3;rw[ev];exact q _ S3
theorem Jw:Bb ["_law_cells", "_law_marks_here", "_law_at", "_law_cause", "_law_thing", "_law_day"] ["_law_cells", "_law_marks_here"] (An Ed):=by injections
theorem Jt {f:Addr} {fd:zCt} (F:Fun K "_law_cells_right" "_law_cells_right" Ed f fd) (T:Txt K mg) (C_law_cell_right:Ct P w K mg base 2 "_law_cell_right" ["_law_cell_here", "_law_cause", "_law_thing", "_law_day", "_law_days"] EE):FnOk P w K mg base Dv 3 f fd ["_law_cells", "_law_marks_here"] P7:=by
 have sc:=Jw;bv_omega
 ·obtain⟨_,_,_,_,_,_,_,rfl,_⟩:=h
  rfl
 obtain⟨c,m,xs,A',B',D',E',rfl,hc,tp,m4,od,lA,lB,lD,q⟩:=h;refine⟨_,(Ae (Bm (Bz (Bx (Bg Bt rfl T.n_isinstance (show zCs _=some (.builtin "isinstance") from rfl) (Aa (pv 0) (Aa (Fn "list" rfl T.n_list rfl) Af)))))
    (Aj (Au Cp))
    Bc)
   (Ae (Ba (i:=2) sc.nd rfl (Or.inl rfl) Ac)
   (Ae (Dd PassesOwn.never rfl (Bn (Ao Dz (Av Bu (pv 1) Ac (fun _ _=>rfl)) (Bq (Aa Bi Af)))) (Bh (i:=3) sc.nd rfl (Or.inl rfl))
    (Aj (Dd PassesOwn.never rfl (Bn (Ao Dz (Av Bu (pv 1) Ac (fun _ _=>rfl)) (Bq (Aa Bi Af)))) (Bh (i:=4) sc.nd rfl (Or.inl rfl))
    (Ae (Ba (i:=5) sc.nd rfl (Or.inl rfl) Ac)
   (Aj (Pl PassesOwn.never (Ay Ge (pv 5) (Ao Hw Ac Ac) (Bd _))
    (Ae (Bm (Ay GA (pv 2) (Bg Bk rfl T.n_len (show zCs _=some (.builtin "len") from rfl) (Aa (pv 0) Af)) (Bd _))
    (Aj (Au Cp))
    Bc)
   (Ae (Bm (Bz (Bx (Am C_law_cell_right (hr.mono (by decide)) rfl (Aa (Av Bu (pv 0) (pv 2) (fun _ _=>rfl)) (Aa (pv 3) (Aa (pv 4) (Aa (pv 5) (Aa (Av Bu (pv 1) Ac (fun _ _=>rfl)) Af))))))))
    (Aj (Au Cp))
    Bc)
   (Ae (Ba (i:=5) sc.nd rfl (Or.inl rfl) (Ao Ca (Av Be (Av Bu (pv 0) (pv 2) (fun _ _=>rfl)) Ac (fun _ _=>rfl)) Ac))
   (Aj (Ba (i:=2) sc.nd rfl (Or.inl rfl) (Ao Ca (pv 2) Ac))))))))))))
   (Aj (Au (Dg Db (pv 2) (Bg Bk rfl T.n_len (show zCs _=some (.builtin "len") from rfl) (Aa (pv 0) Af)) (Bd _))))))),?_⟩
 have sl:=zCr;have one:1<=sizeLine:=by lia
 have e6:(10:Int)^(6:Int).toNat=1000000:=by ac_nf
 obtain⟨ma,mb,mc,md,hm,hma,hmb,hmc,hmd⟩:=m4;have dl:=Dp D';have tl:xs.length=(A'.length+1)*((B'.length+1)*(D'.length+1)):=by rw[tp.len,Gf,zAe]; rfl
 generalize eW:(B'.length+1)*(D'.length+1)=W at tl;refine (vE rfl ⟨_,_,_,_,_,rfl,Fm,.lst hc,Tz,vE rfl (Cg ?_)⟩);refine J4 [some (.ref c),some (.ref m),some (.int 0),none,none,none] rfl ?_;refine (vE rfl (vI rfl rfl (SqL.of hm) rfl ⟨one,fun o1 n1=>?_⟩));refine⟨ma,o1,_,_,rfl,rfl,Ag n1 _ _ _ hma,Ab,by rw[zAa]; show _+1<=_; lia,fun a na=>?_⟩;obtain⟨s3,ha⟩:=Gb (xs:=A'.map V.str) n1 na;generalize upd (upd H o1 (.lst [.str ""])) a (.lst (A'.map V.str++[.str ""]))=H3 at s3 ha;have xA:A'.map V.str++[V.str ""]=(A'++[("" : Str)]).map V.str:=by rw[zAn]; rfl
 have xB:B'.map V.str++[V.str ""]=(B'++[("" : Str)]).map V.str:=by rw[zAn]; rfl
 have lA1:(A'++[("" : Str)]).length=A'.length+1:=by rw[zAe]; rfl
 have lB1:(B'++[("" : Str)]).length=B'.length+1:=by rw[zAe]; rfl
 rw[xA] at ha;refine⟨a,rfl,⟨_,SqL.of ha⟩,?_⟩;refine Cm (K:=K) (a:=a) (xs:=(A'++[("" : Str)]).map V.str) (fun i σ H4=>(∃ o3 o4 o5,σ=[some (.ref c),some (.ref m),some (.int ((i*W:Nat):Int)),o3,o4,o5])/\Same H3 H4) ⟨⟨none,none,none,by rw[Nat.zero_mul]; rfl⟩,Same.refl _⟩ (fun i σ H4 _ hh=>SqL.of (hh.2 _ _ ha)) ?_ ?_
 ·rintro i x σ H4 hi ⟨⟨o3,o4,o5,rfl⟩,s4⟩
  rw[zAl] at hi;obtain⟨ca,hca,rfl⟩:=zAy.mp hi;have il:i<A'.length+1:=by have:=(zAp.mp hca).1; lia
  have iW:i*W+W<=(A'.length+1)*W:=by
   rw[<- zBO];exact Nat.mul_le_mul_right W il
  refine Gk [some (.ref c),some (.ref m),some (.int ((i*W:Nat):Int)),some (.str ca),o4,o5] rfl ?_;have S4:=s3.trans s4;refine (vE rfl (vI rfl rfl (SqL.of (S4 _ _ hm)) rfl ⟨one,fun o1 n1=>?_⟩));refine⟨mb,o1,_,_,rfl,rfl,Ag n1 _ _ _ (S4 _ _ hmb),Ab,by rw[zAa]; show _+1<=_; lia,fun a2 na2=>?_⟩;obtain⟨s5,ha2⟩:=Gb (xs:=B'.map V.str) n1 na2;generalize upd (upd H4 o1 (.lst [.str ""])) a2 (.lst (B'.map V.str++[.str ""]))=H5 at s5 ha2;rw[xB] at ha2;refine⟨a2,rfl,⟨_,SqL.of ha2⟩,?_⟩;refine Cm (K:=K) (a:=a2) (xs:=(B'++[("" : Str)]).map V.str) (fun j σ H6=>(∃ o4 o5,σ=[some (.ref c),some (.ref m),some (.int ((i*W+j*(D'.length+1):Nat):Int)),some (.str ca),o4,o5])/\Same H5 H6) ⟨⟨o4,o5,by rw[Nat.zero_mul]; rfl⟩,Same.refl _⟩ (fun i σ H6 _ hh=>SqL.of (hh.2 _ _ ha2)) ?_ ?_
  ·rintro j x σ H6 hj ⟨⟨o4,o5,rfl⟩,s6⟩
   rw[zAl] at hj;obtain⟨th,hth,rfl⟩:=zAy.mp hj;have jl:j<B'.length+1:=by have:=(zAp.mp hth).1; lia
   have jW:j*(D'.length+1)+(D'.length+1)<=W:=by
    rw[<- eW,<- zBO];exact Nat.mul_le_mul_right _ jl
   refine Gk [some (.ref c),some (.ref m),some (.int ((i*W+j*(D'.length+1):Nat):Int)),some (.str ca),some (.str th),o5] rfl ?_;refine J4 [some (.ref c),some (.ref m),some (.int ((i*W+j*(D'.length+1):Nat):Int)),some (.str ca),some (.str th),some (.int 0)] rfl ?_;have S6:=S4.trans (s5.trans s6);refine⟨fun mm σ' H7=>Same H6 H7/\∃ (k:Nat) (day:Int),σ'=[some (.ref c),some (.ref m),some (.int ((i*W+j*(D'.length+1)+k:Nat):Int)),some (.str ca),some (.str th),some (.int day)]/\((∃ la,(Ck D')[k]?=some (day,la)/\mm=D'.length+1-k)\/(k=D'.length+1/\day=1000001/\mm=0)),⟨D'.length+1,Same.refl _,0,0,rfl,.inl (by obtain⟨la,h⟩:=Q9 D'; exact⟨la,h,rfl⟩)⟩,?_⟩;rintro mm σ' H7 ⟨s7,k,day,rfl,alt⟩;refine (vE rfl (vF rfl rfl ⟨⟨by decide,by decide,by decide⟩,vF rfl rfl (vE rfl ?_)⟩));rcases alt with ⟨la,hk,rfl⟩ | ⟨rfl,rfl,rfl⟩
   ·have kl:k<D'.length+1:=by have:=(zAp.mp hk).1; lia
    obtain⟨f1,f2,f3,f4,f5⟩:=D8 od hk;have l1m:la<=1000000:=f3.elim (fun e=>by lia) fun h=>by have:=(od.2 _ h).2; lia
    have S7:=S6.trans s7;have hc7:=S7 _ _ hc;have atl:i*W+j*(D'.length+1)+k<xs.length:=by rw[tl]; lia
    have ex:xs[i*W+j*(D'.length+1)+k]?=some xs[i*W+j*(D'.length+1)+k]:=zAf atl;obtain⟨t,rr,hrr,et,ht⟩:=tp.get ex;have cg:(Cu B' D' (A'++[("" : Str)]))[i*W+(j*(D'.length+1)+k)]?=some (Cf ca th (day,la)):=by
     rw[<- eW];exact Yr hca hth hk
    rw[<- Nat.add_assoc,hrr] at cg;cases cg;rw[et] at ex;refine dT (by show day<=(10:Int)^(6:Int).toNat; rw[e6]; lia) ⟨fun σ2 H2=>Same H6 H2/\σ2=[some (.ref c),some (.ref m),some (.int ((i*W+j*(D'.length+1)+(k+1):Nat):Int)),some (.str ca),some (.str th),some (.int (la+1))],fun σ2 H2 ⟨g1,g2⟩=>?_,?_⟩
    ·by_cases kn:k+1<D'.length+1
     ·obtain⟨la',h'⟩:=f4 kn
      exact⟨D'.length+1-(k+1),by lia,g1,k+1,la+1,g2,.inl ⟨la',h',rfl⟩⟩
     ·have e:la=1000000:=f5 (by lia)
      exact⟨0,by lia,g1,k+1,la+1,g2,.inr ⟨by lia,by lia,rfl⟩⟩
    ·refine (vE rfl (vE rfl ⟨c,xs,rfl,.inl (SqL.of hc7),vF rfl rfl (vE rfl (dF ?_ ?_))⟩))
     ·show ¬ ((xs.length:Nat):Int)<=((i*W+j*(D'.length+1)+k:Nat):Int)
      lia
     have hat:Nt xs ((i*W+j*(D'.length+1)+k:Nat):Int)=some (.ref t):=Fq ex;refine (vE rfl (vE rfl (vI rfl rfl (SqL.of hc7) hat (vE rfl (vE rfl (vE rfl (vE rfl (vI rfl rfl (SqL.of (S7 _ _ hm)) rfl ⟨t,ca,th,mc,day,la,D',rfl,S7 _ _ ht,S7 _ _ hmc,lD,f1,f2,f3,fun H8 s8=>vE rfl (Cg ?_)⟩))))))));have S8:=S7.trans s8;refine (vE rfl (vE rfl (vI rfl rfl (SqL.of (S8 _ _ hc)) hat (vI rfl rfl (SqT.of (S8 _ _ ht)) rfl (vF rfl rfl ?_)))));refine Gk [some (.ref c),some (.ref m),some (.int ((i*W+j*(D'.length+1)+k:Nat):Int)),some (.str ca),some (.str th),some (.int (la+1))] rfl ?_;refine (vE rfl (vF rfl rfl ?_));refine Gk [some (.ref c),some (.ref m),some (.int ((i*W+j*(D'.length+1)+(k+1):Nat):Int)),some (.str ca),some (.str th),some (.int (la+1))] rfl ?_;exact⟨s7.trans s8,rfl⟩
   ·refine dF (by show ¬ (1000001:Int)<=(10:Int)^(6:Int).toNat; rw[e6]; decide) ?_
    have ej:i*W+j*(D'.length+1)+(D'.length+1)=i*W+(j+1)*(D'.length+1):=by rw[zBO,Nat.add_assoc]
    exact⟨⟨some (.str th),some (.int 1000001),by rw[ej]⟩,s6.trans s7⟩
  ·rintro σ H6 ⟨⟨o4,o5,rfl⟩,s6⟩
   exact⟨⟨some (.str ca),o4,o5,by rw[zAa,lB1,eW,zBO]⟩,s4.trans (s5.trans s6)⟩
 ·rintro σ H4 ⟨⟨o3,o4,o5,rfl⟩,s4⟩
  have S4:=s3.trans s4;refine (vE rfl (vE rfl ⟨c,xs,rfl,.inl (SqL.of (S4 _ _ hc)),rfl,?_⟩));show Q (V.bl (decide (V.int ((((A'++[("" : Str)]).map V.str).length*W:Nat):Int)=V.int (xs.length:Int)))) H4;rw[zAa,lA1,tl,decide_eq_true rfl];exact q _ S4
def DG:Sp:=fun vs H Q _=>∃ f e xs,∃ bd:Int,∃ E:List Int,vs=[.ref f,.int bd,.ref e]/\H f=some (.lst xs)/\Tps H xs ((Gs (E.filter fun y=>decide (1<=y/\y<bd)) bd).map BK)/\H e=some (.lst (List.map V.int E))/\E.Pairwise (· < ·)/\E.length<=60/\1<=bd/\∀ H',Same H H'->Q (.bl true) H'
def Uo (L:List Int) (bd:Int):List Int:=1::(L++[bd]).map (· + 1)
theorem Zo (L:List Int) (bd:Int):(Gs L bd).length=L.length+1:=by
 unfold Gs;rw[List.length_zip,zAe,zAj,zAa];simp
theorem O0 {L:List Int} {bd x:Int} (h:(Uo L bd)[L.length+1]?=some x):x=bd+1:=by
 unfold Uo at h;rw[zAL,zAl,zAQ (zAg _),Nat.sub_self] at h
 simpa using h.symm
theorem EA {E:List Int} {bd:Int} (pE:E.Pairwise (· < ·)) (b1:1<=bd) {k:Nat} {fi la:Int} (h:(Gs (E.filter fun y=>decide (1<=y/\y<bd)) bd)[k]?=some (fi,la)):(Uo (E.filter fun y=>decide (1<=y/\y<bd)) bd)[k]?=some fi/\(Uo (E.filter fun y=>decide (1<=y/\y<bd)) bd)[k+1]?=some (la+1)/\fi<=la/\la<=bd/\(la<bd->la∈E)/\∀ y∈E,¬ (fi<=y/\y<la):=by
 have mem:∀ y,y∈E.filter (fun y=>decide (1<=y/\y<bd))↔(y∈E/\1<=y/\y<bd):=fun y=>by rw[zCb,decide_eq_true_eq]
 have pw:=zBN.mp (pE.filter fun y=>decide (1<=y/\y<bd));generalize E.filter (fun y=>decide (1<=y/\y<bd))=L at h mem pw ⊢;unfold Gs at h;obtain⟨h1,h2⟩:=zCe.mp h;have kl:k<L.length+1:=by
  have:=(zAp.mp h2).1;rw[zAe] at this;exact this
 have F:(1<=fi)/\(∀ m (hm:m<L.length),m<k->L[m]<fi)/\(∀ m (hm:m<L.length),k<=m->fi<=L[m])/\fi<=bd:=by
  cases k with
  | zero=>
   have e:(1:Int)=fi:=by simpa using h1
   exact⟨by lia,fun m hm h=>absurd h (zBc _),fun m hm _=>by have:=((mem _).mp (zBg hm)).2; lia,by lia⟩
  | succ k'=>
   rw[zAL,zAl] at h1;obtain⟨z,hz,e⟩:=zAy.mp h1;obtain⟨hk,e2⟩:=zAp.mp hz;have e:z+1=fi:=e;have zz:=((mem z).mp (zAu hz)).2;refine⟨by lia,fun m hm h=>?_,fun m hm h=>?_,by lia⟩
   ·rcases zBJ m k' with c | c
    ·have:=pw m k' hm hk c
     lia
    ·have z':m=k':=by lia
     subst z'
     lia
   ·have:=pw k' m hk hm (by lia)
    lia
 obtain⟨F1,F2,F3,F4⟩:=F;have N1:(Uo L bd)[k]?=some fi:=by
  unfold Uo;cases k with
  | zero=>exact h1
  | succ k'=>
   rw[zAL] at h1 ⊢;have hk:k'<(L.map (· + 1)).length:=(zAp.mp h1).1;rw[zAn,zBa hk];exact h1
 have N2:(Uo L bd)[k+1]?=some (la+1):=by
  unfold Uo;rw[zAL,zAl,h2];rfl
 refine⟨N1,N2,?_⟩;by_cases c:k<L.length
 ·have e:L[k]=la:=by
   rw[zBa c,zAf c] at h2
   simpa using h2
  have ml:=(mem la).mp (by rw[<- e]; exact zBg c);refine⟨by have:=F3 k c (zAg _); lia,by lia,fun _=>ml.1,fun y hy ⟨g1,g2⟩=>?_⟩;obtain⟨m,hm,rfl⟩:=zBh ((mem y).mpr ⟨hy,by lia,by lia⟩);rcases zBJ m k with z | z
  ·have:=F2 m hm z
   lia
  ·rcases zBJ k m with z2 | z2
   ·have:=pw k m c hm z2
    lia
   ·have z3:m=k:=by lia
    subst z3
    lia
 ·have kd:k=L.length:=by lia
  have e:bd=la:=by
   rw[zAQ (by lia),kd,Nat.sub_self] at h2
   simpa using h2
  subst e;refine⟨F4,Int.le_refl _,fun h=>by lia,fun y hy ⟨g1,g2⟩=>?_⟩;obtain⟨m,hm,rfl⟩:=zBh ((mem y).mpr ⟨hy,by lia,by lia⟩);have:=F2 m hm (by lia)
  lia
theorem Hc:Bb ["_law_found", "_law_bound_here", "_law_amounts", "_law_at", "_law_row"] ["_law_found", "_law_bound_here", "_law_amounts"] (An Dh):=by injections
theorem Hi {f:Addr} {fd:zCt} (F:Fun K "_law_stretches_right" "_law_stretches_right" Dh f fd) (T:Txt K mg) (C_law_whole:Ct P w K mg base 1 "_law_whole" ["_law_found"] (Ft K)):FnOk P w K mg base Dv 2 f fd ["_law_found", "_law_bound_here", "_law_amounts"] DG:=by
 have sc:=Hc;bv_omega
 ·obtain⟨_,_,_,_,_,rfl,_⟩:=h
  rfl
 obtain⟨fo,e,xs,bd,E',rfl,hf,tp,he,pE,lE,b1,q⟩:=h;refine⟨_,(Ae (Bm (Bz (Bx (Bg Bt rfl T.n_isinstance (show zCs _=some (.builtin "isinstance") from rfl) (Aa (pv 0) (Aa (Fn "list" rfl T.n_list rfl) Af)))))
    (Aj (Au Cp))
    Bc)
   (Ae (Ba (i:=3) sc.nd rfl (Or.inl rfl) Ac)
   (Ae (Dd PassesOwn.never rfl (Bn (pv 0)) (Bh (i:=4) sc.nd rfl (Or.inr rfl))
    (Ae (Bm (PW.pt (Dk (Bz (Bx (Bg Bt rfl T.n_isinstance (show zCs _=some (.builtin "isinstance") from rfl) (Aa (pv 4) (Aa (Fn "tuple" rfl T.n_tuple rfl) Af))))) (Dk (Ay Lq (Bg Bk rfl T.n_len (show zCs _=some (.builtin "len") from rfl) (Aa (pv 4) Af)) Ac (Bd _)) (Dk (Bz (Bx (Am C_law_whole (hr.mono (by decide)) rfl (Aa (Av Be (pv 4) Ac (fun _ _=>rfl)) Af)))) (Dn (Bz (Bx (Am C_law_whole (hr.mono (by decide)) rfl (Aa (Av Be (pv 4) Ac (fun _ _=>rfl)) Af)))))))))
    (Aj (Au Cp))
    Bc)
   (Ae (Bm (PW.pt (Dk (Ay Lq (Av Be (pv 4) Ac (fun _ _=>rfl)) (pv 3) (Bd _)) (Dk (Bz (Iz Ge Ge (pv 3) (Av Be (pv 4) Ac (fun _ _=>rfl)) (pv 1))) (Dn (PW.pt (Mv (Ay Ip (Av Be (pv 4) Ac (fun _ _=>rfl)) (pv 1) (Bd _)) (Lu (Ay Du (Av Be (pv 4) Ac (fun _ _=>rfl)) (pv 2) rfl))))))))
    (Aj (Au Cp))
    Bc)
   (Ae (Bm (Ay Hh Cp (Da (NC:=["_law_amount_here", "_law_row"]) (own:=["_law_amount_here"]) (cs:=["_law_row"]) (ix:=[4]) rfl (CompScope.of rfl) rfl ⟨⟨rfl,.inl rfl,rfl⟩,trivial⟩ (Bn (pv 2)) (fun _ _ _=>(Bh (i:=0) (show (["_law_amount_here", "_law_row"]:List Str).Nodup from by ac_nf) rfl (Or.inl rfl))) (fun _ _ _=>Cr) (fun _ _ _=>(Po Ge Ip (Av (Gn (K:=K) rfl) (pv 1) Ac (fun _ _=>rfl)) (pv 0) (Av (Gn (K:=K) rfl) (pv 1) Ac (fun _ _=>rfl))))) rfl)
    (Aj (Au Cp))
    Bc)
   (Aj (Ba (i:=3) sc.nd rfl (Or.inl rfl) (Ao Ca (Av Be (pv 4) Ac (fun _ _=>rfl)) Ac)))))))
   (Aj (Au (Dg Db (pv 3) (Ao Ca (pv 1) Ac) (Bd _))))))),?_⟩
 have sl:=zCr;have lm:(E'.map V.int).length=E'.length:=zAa _;have ll:(E'.filter fun y=>decide (1<=y/\y<bd)).length<=60:=zAE (zAZ _ _) lE;have xl:xs.length=(E'.filter fun y=>decide (1<=y/\y<bd)).length+1:=by rw[tp.len,zAa,Zo]
 refine (vE rfl ⟨_,_,_,_,_,rfl,Fm,.lst hf,Tz,vE rfl (Cg ?_)⟩);refine J4 [some (.ref fo),some (.int bd),some (.ref e),some (.int 1),none] rfl ?_;refine (vE rfl ⟨fo,rfl,⟨_,SqL.of hf⟩,?_⟩);refine Cm (K:=K) (a:=fo) (xs:=xs) (fun k σ H2=>(∃ (at':Int) (o:Option V),σ=[some (.ref fo),some (.int bd),some (.ref e),some (.int at'),o]/\(Uo (E'.filter fun y=>decide (1<=y/\y<bd)) bd)[k]?=some at')/\Same H H2) ⟨⟨1,none,rfl,rfl⟩,Same.refl _⟩ (fun i σ H2 _ hh=>SqL.of (hh.2 _ _ hf)) ?_ ?_
 ·rintro k x σ H2 hk ⟨⟨at',o,rfl,hat⟩,s2⟩
  obtain⟨t,rr,hrr,rfl,ht⟩:=tp.get hk;rw[zAl] at hrr;obtain⟨⟨fi,la⟩,hpr,rfl⟩:=zAy.mp hrr;obtain⟨f1,f2,f3,f4,f5,f6⟩:=EA pE b1 hpr;rw[hat] at f1;cases f1;have ht2:H2 t=some (.tup [.int at',.int la]):=s2 _ _ ht;have he2:=s2 _ _ he;refine Gk [some (.ref fo),some (.int bd),some (.ref e),some (.int at'),some (.ref t)] rfl ?_;refine (vE rfl ⟨_,_,_,_,_,rfl,Fm,.tup ht2,Us,vE rfl (Cg ?_)⟩);refine (vE rfl ⟨t,_,rfl,.inr (SqT.of ht2),rfl,vE rfl (nF rfl ?_)⟩);refine (vE rfl (vI rfl rfl (SqT.of ht2) rfl ⟨_,_,rfl,.int at',vE rfl (Cg ?_)⟩));refine (vE rfl (vI rfl rfl (SqT.of ht2) rfl ⟨_,_,rfl,.int la,vE rfl (Cg ?_)⟩));refine (vE rfl (vI rfl rfl (SqT.of ht2) rfl (vE rfl ⟨rfl,vE rfl (nF rfl ?_)⟩)));refine (vE rfl (vE rfl (vI rfl rfl (SqT.of ht2) rfl (vF rfl rfl (vE rfl (dT f3 ?_))))));refine (vE rfl (vF rfl rfl (vE rfl (nF f4 ?_))));refine (vE rfl (vI rfl rfl (SqT.of ht2) rfl (vE rfl (vF rfl rfl (vE rfl ?_)))));by_cases c:la<bd
  case' pos=>
   refine dT c (vE rfl (vI rfl rfl (SqT.of ht2) rfl (vE rfl ⟨e,_,rfl,.inl (SqL.of he2),rfl,Ep E',vE rfl ?_⟩)));refine (show (if (!Pn (.int la) (E'.map V.int))=true then _ else _) from ?_);rw[C1];refine nF (f5 c) ?_
  case' neg=>refine dF c (Cg ?_)
  all_goals
   refine (vE rfl ⟨e,rfl,⟨_,SqL.of he2⟩,fun p np=>?_⟩);refine Cc (K:=K) (a:=e) (xs:=E'.map V.int) (fun i ys H3=>ys=(zAD i false).map V.bl/\H3 p=some (.lst ys)/\Same H2 H3) ⟨rfl,Ab,Ag np _⟩
    (fun i ys H3 _ ⟨e,h1,s3⟩=>⟨h1,by rw[e,zAa,zAS]; exact zAg _,SqL.of (s3 _ _ he2)⟩) (by rw[lm]; lia) (fun i v ys H3 hi ⟨e,h1,s3⟩=>?_) (fun ys H3 ⟨e,h1,s3⟩=>?_)
   ·rw[zAl] at hi
    obtain⟨y,hy,rfl⟩:=zAy.mp hi;have ny:=f6 y (zAu hy);have more:ys++[V.bl false]=(zAD (i+1) false).map V.bl/\upd H3 p (.lst (ys++[V.bl false])) p=some (.lst (ys++[V.bl false]))/\Same H2 (upd H3 p (.lst (ys++[V.bl false]))):=⟨by rw[List.replicate_succ',zAn,e]; rfl,Ab,Bv np s3⟩;refine (vE rfl (vI rfl rfl (SqT.of (s3 _ _ ht2)) rfl (vE rfl (vF rfl rfl (vE rfl ?_)))));by_cases c1:at'<=y
    ·refine dT c1 (vE rfl (vI rfl rfl (SqT.of (s3 _ _ ht2)) rfl (vF rfl rfl ⟨h1,rfl,?_⟩)))
     have c2:¬ y<la:=fun h=>ny ⟨c1,h⟩;show ys++[V.bl (decide (y<la))]=_/\upd H3 p (.lst (ys++[V.bl (decide (y<la))])) p=some (.lst (ys++[V.bl (decide (y<la))]))/\Same H2 (upd H3 p (.lst (ys++[V.bl (decide (y<la))])));rw[decide_eq_false c2];exact more
    ·exact dF c1 ⟨h1,rfl,more⟩
   ·have any:Pn (.bl true) ys=false:=by
     rw[e,Vd,List.any_replicate];simp
    refine⟨p,ys,rfl,.inl (SqL.of h1),rfl,by rw[e]; exact We _,vE rfl ?_⟩;refine (show (if Pn (.bl true) ys=true then _ else _) from ?_);rw[any];refine Cg ?_;refine (vE rfl (vI rfl rfl (SqT.of (s3 _ _ ht2)) rfl (vF rfl rfl ?_)));refine Gk [some (.ref fo),some (.int bd),some (.ref _),some (.int (la+1)),some (.ref t)] rfl ?_;exact⟨⟨la+1,_,rfl,f2⟩,s2.trans s3⟩
 ·rintro σ H2 ⟨⟨at',o,rfl,hat⟩,s2⟩
  rw[xl] at hat;have e1:at'=bd+1:=O0 hat;refine (vE rfl (vE rfl (vF rfl rfl ⟨rfl,?_⟩)));show Q (V.bl (decide (V.int at'=V.int (bd+1)))) H2;rw[decide_eq_true (congrArg V.int e1)];exact q _ s2
end
def CF (κ:A8) (C CB:Addr):Sp:=fun vs H Q _=>∃ b cs t ca th m,∃ fi la cn:Int,∃ A B:List Str,∃ D E:List Int,vs=[.ref b,.ref t,.int cn,.ref m]/\BwAt κ C CB H b cs/\(mB cs).length<=60/\H t=some (.tup (Cf ca th (fi,la)))/\Mks4 cs A B D E/\(∃ a b c d,H m=some (.lst [.ref a,.ref b,.ref c,.ref d])/\H a=some (.lst (List.map V.str A))/\H b=some (.lst (List.map V.str B)))/\∀ H',Same H H'->Q (.bl true) H'
theorem othN.uniq {ns:List Str} {n m m':Str} (h:othN ns n m) (g:othN ns n m'):m=m':=by
 rcases h with ⟨e,h⟩ | ⟨e,h⟩ <;> rcases g with ⟨e',g⟩ | ⟨e',g⟩
 ·exact h.uniq g
 ·exact absurd e e'
 ·exact absurd e' e
 ·rw[h,g]
section
variable {P:Program} {w:World} {K:zAb} {mg:Str->Option Value} {base:Heap} {Ad Ai Ah Ak Aq Ax Aw Ap Bj Al Az:Addr}
theorem Kh:Bb ["_law_book", "_law_cell_here", "_law_cents", "_law_marks_here", "_law_cause", "_law_thing", "_law_found"] ["_law_book", "_law_cell_here", "_law_cents", "_law_marks_here"] (An El):=by injections
theorem Ky {f:Addr} {fd:zCt} (F:Fun K "_law_loss_right" "_law_loss_right" El f fd) (T:Txt K mg) (C_law_whole:Ct P w K mg base 1 "_law_whole" ["_law_found"] (Ft K)) (C_law_other:Ct P w K mg base 1 "_law_other" ["_law_names_here"] Pb) (Closs_in:Ct P w K mg base 10 "loss_in" ["book", "cell", "cents"] (Qz (A8.mk Ad Ai Ah Ak Aq Ax Aw Ap) Al Az)):FnOk P w K mg base Dv 11 f fd ["_law_book", "_law_cell_here", "_law_cents", "_law_marks_here"] (CF (A8.mk Ad Ai Ah Ak Aq Ax Aw Ap) Al Az):=by
 have sc:=Kh;bv_omega
 ·obtain⟨_,_,_,_,_,_,_,_,_,_,_,_,_,rfl,_⟩:=h
  rfl
 have hu64:=Ow hr;obtain⟨b,cs,t,ca,th,m,fi,la,cn,A',B',D',E',rfl,bw,l6,ht,M4,⟨ma,mb,mc,md,hm,hma,hmb⟩,q⟩:=h;refine⟨_,(Ae (Ba (i:=4) sc.nd rfl (Or.inl rfl) (Hk (Ay Lq (Av Be (pv 1) Ac (fun _ _=>rfl)) Bi (Bd _)) (Av Be (pv 1) Ac (fun _ _=>rfl)) (Am C_law_other (hr.mono (by decide)) rfl (Aa (Av Bu (pv 3) Ac (fun _ _=>rfl)) Af))))
   (Ae (Ba (i:=5) sc.nd rfl (Or.inl rfl) (Hk (Ay Lq (Av Be (pv 1) Ac (fun _ _=>rfl)) Bi (Bd _)) (Av Be (pv 1) Ac (fun _ _=>rfl)) (Am C_law_other (hr.mono (by decide)) rfl (Aa (Av Bu (pv 3) Ac (fun _ _=>rfl)) Af))))
   (Ae (Ba (i:=6) sc.nd rfl (Or.inl rfl) (Am Closs_in (hr.mono (by decide)) rfl (Aa (pv 0) (Aa (pv 1) (Aa (pv 2) Af)))))
   (Ae (Bm (PW.pt (Dk (Bz (Bx (Bg Bt rfl T.n_isinstance (show zCs _=some (.builtin "isinstance") from rfl) (Aa (pv 6) (Aa (Fn "tuple" rfl T.n_tuple rfl) Af))))) (Dk (Bz (Bx (Am C_law_whole (hr.mono (by decide)) rfl (Aa (Av Be (pv 6) Ac (fun _ _=>rfl)) Af)))) (Dn (Bz (Bx (Am C_law_whole (hr.mono (by decide)) rfl (Aa (Av Be (pv 6) Ac (fun _ _=>rfl)) Af))))))))
    (Aj (Au Cp))
    Bc)
   (Aj (Au (Mt (Am C_law_whole (hr.mono (by decide)) rfl (Aa (Av Be (pv 6) Ac (fun _ _=>rfl)) Af)) (Me (Dg (Ra (K:=K) hu64) (pv 6) (Cj (Aa Ac (Aa (Av Be (pv 1) Ac (fun _ _=>rfl)) (Aa Bi (Aa (pv 5) (Aa (pv 4) (Aa (pv 2) Af))))))) (Bd _)))))))))),?_⟩
 have ht:H t=some (.tup [.str ca,.str th,.int fi,.int la]):=ht;have lA:=Ob l6 M4.nA M4.mA;have lB:=Ob l6 M4.nB M4.mB';refine Oo fun N eN=>?_;have go:∀ ca',othN A' ca ca'->N [some (.ref b),some (.ref t),some (.int cn),some (.ref m),some (.str ca'),none,none] H:=?go
 ·refine (vE rfl (vI rfl rfl (SqT.of ht) rfl ⟨rfl,vE rfl ?_⟩))
  by_cases e:V.str ca=V.str ""
  ·exact nF e (vE rfl (vI rfl rfl (SqL.of hm) rfl ⟨ma,A',rfl,hma,lA,fun n fn=>Gk [some (.ref b),some (.ref t),some (.int cn),some (.ref m),some (.str n),none,none] rfl (go n (.inl ⟨V.str.inj e,fn⟩))⟩))
  ·exact nT e (vE rfl (vI rfl rfl (SqT.of ht) rfl (Gk [some (.ref b),some (.ref t),some (.int cn),some (.ref m),some (.str ca),none,none] rfl (go ca (.inr ⟨fun z=>e (congrArg V.str z),rfl⟩)))))
 intro ca' oA;refine Lg eN fun N eN=>?_;have go:∀ th',othN B' th th'->N [some (.ref b),some (.ref t),some (.int cn),some (.ref m),some (.str ca'),some (.str th'),none] H:=?go2
 ·refine (vE rfl (vI rfl rfl (SqT.of ht) rfl ⟨rfl,vE rfl ?_⟩))
  by_cases e:V.str th=V.str ""
  ·exact nF e (vE rfl (vI rfl rfl (SqL.of hm) rfl ⟨mb,B',rfl,hmb,lB,fun n fn=>Gk [some (.ref b),some (.ref t),some (.int cn),some (.ref m),some (.str ca'),some (.str n),none] rfl (go n (.inl ⟨V.str.inj e,fn⟩))⟩))
  ·exact nT e (vE rfl (vI rfl rfl (SqT.of ht) rfl (Gk [some (.ref b),some (.ref t),some (.int cn),some (.ref m),some (.str ca'),some (.str th),none] rfl (go th (.inr ⟨fun z=>e (congrArg V.str z),rfl⟩)))))
 intro th' oB;refine Lg eN fun N eN=>?_;refine (vE rfl (vE rfl (vE rfl ⟨b,cs,t,ca,th,fi,la,cn,rfl,bw,l6,ht,fun r th2 ca2 H2 A2 B2 D2 E2 s2 nr M2 oA2 oB2 hr2=>?_⟩)));obtain⟨rfl,rfl,_,_⟩:=M4.uniq M2;obtain rfl:=oA.uniq oA2;obtain rfl:=oB.uniq oB2;refine Jk eN [some (.ref b),some (.ref t),some (.int cn),some (.ref m),some (.str ca'),some (.str th'),some (.ref r)] rfl fun N eN=>?_;refine (vE rfl ⟨_,_,_,_,_,rfl,Fm,.tup hr2,Us,vE rfl (Cg ?_)⟩);refine (vE rfl (vI rfl rfl (SqT.of hr2) rfl ⟨_,_,rfl,.int 0,vE rfl (Cg ?_)⟩));refine (vE rfl (vI rfl rfl (SqT.of hr2) rfl ⟨_,_,rfl,.int fi,vE rfl (Cg ?_)⟩));show N _ H2;rw[eN];refine (vE rfl (vI rfl rfl (SqT.of hr2) rfl ⟨_,_,rfl,.int cn,vE rfl (Kn ?_)⟩));refine (vE rfl (vE rfl (vI rfl rfl (SqT.of (s2 _ _ ht)) rfl (vE rfl (vE rfl (vE rfl ⟨Ce (by show 6<=1000; decide),fun p np=>?_⟩))))));have s3:=Ag np (.tup [V.int 0,.int fi,.str "e",.str th',.str ca',.int cn]);refine⟨true,_,_,Ic (s3 _ _ hr2) rfl,Ic (K:=K) (vs:=[V.int 0,.int fi,.str "e",.str th',.str ca',.int cn]) Ab rfl,by rw[Fw]; decide,?_⟩;show Q (V.bl (eqDs ([V.int 0,.int fi,.str "e",.str th',.str ca',.int cn].map L2.D.at) ([V.int 0,.int fi,.str "e",.str th',.str ca',.int cn].map L2.D.at))) _;rw[Gz,Hj rfl];exact q _ (s2.trans s3)
end
def Yu:Sp:=fun vs H Q _=>∃ c m th ca xs,∃ dr:Int,∃ A B:List Str,∃ D:List Int,∃ TH CA:List Str,vs=[.ref c,.ref m,.int dr,.ref th,.ref ca]/\H c=some (.lst xs)/\Tps H xs (Cu B D (A++[("" : Str)]))/\(∃ a b c d,H m=some (.lst [.ref a,.ref b,.ref c,.ref d])/\H a=some (.lst (List.map V.str A))/\H b=some (.lst (List.map V.str B)))/\H th=some (.lst (List.map V.str TH))/\H ca=some (.lst (List.map V.str CA))/\TH.length=3/\CA.length=3/\0<=dr/\A.Nodup/\B.Nodup/\("" : Str)∉A/\("" : Str)∉B/\D.Pairwise (· < ·)/\(∀ y∈D,1<=y/\y<=1000000)/\A.length<=60/\B.length<=60/\D.length<=60/\∀ H',Same H H'->Q (.bl true) H'
def Ev (dy:Int) (p:Int×Int):Bool:=decide (p.1<=dy/\dy<=p.2)
theorem P8 {dy:Int}:∀ {D:List Int} {a:Int},dy<a->(∀ y∈D,dy<y)->(((a::D).zip (D.map (· - 1)++[(1000000:Int)])).filter (Ev dy)).length=0
 | [],a,h,_=>by
  show ([(a,(1000000:Int))].filter (Ev dy)).length=0;rw[zBd (by unfold Ev; exact fun z=>by have:=(of_decide_eq_true z).1; omega)];rfl
 | d::D,a,h,hD=>by
  show (((a,d-1)::((d::D).zip (D.map (· - 1)++[(1000000:Int)]))).filter (Ev dy)).length=0;rw[zBd (by unfold Ev; exact fun z=>by have:=(of_decide_eq_true z).1; omega)];exact P8 (hD d zAo) fun y hy=>hD y (zAm _ hy)
theorem Ww {dy:Int} (d1:dy<=1000000):∀ {D:List Int} {a:Int},a<=dy->D.Pairwise (· < ·)->(((a::D).zip (D.map (· - 1)++[(1000000:Int)])).filter (Ev dy)).length=1
 | [],a,h,_=>by
  show ([(a,(1000000:Int))].filter (Ev dy)).length=1;rw[zBl (by unfold Ev; exact decide_eq_true ⟨h,d1⟩)];rfl
 | d::D,a,h,pw=>by
  rw[zBs] at pw;show (((a,d-1)::((d::D).zip (D.map (· - 1)++[(1000000:Int)]))).filter (Ev dy)).length=1;by_cases c:dy<d
  ·rw[zBl (by unfold Ev; exact decide_eq_true ⟨h,by omega⟩),zAj,P8 c fun y hy=>Int.lt_trans c (pw.1 y hy)]
  ·rw[zBd (by unfold Ev; exact fun z=>by have:=(of_decide_eq_true z).2; omega)]
   exact Ww d1 (by omega) pw.2
theorem X5 {D:List Int} {dy:Int} (pD:D.Pairwise (· < ·)) (rD:∀ y∈D,1<=y/\y<=1000000) (d0:0<=dy) (d1:dy<=1000000):((Ck D).filter (Ev dy)).length=1:=Ww d1 d0 pD
def Pq (x1 x2:Str) (r:List V):Bool:=Np (r.take 2) [.str x1,.str x2]
theorem Wi (x1 x2 c t:Str) (p:Int×Int):Pq x1 x2 (Cf c t p)=decide (c=x1/\t=x2):=by
 show Np [V.str c,.str t] [.str x1,.str x2]=_;unfold Np Np Np Sy;rw[zBF];simp
theorem Kp {B:List Str} {D:List Int} {As:List Str} {r:List V} (h:r∈Cu B D As):∃ c t p,r=Cf c t p:=by
 unfold Cu Fi at h;obtain⟨l,hl,hr⟩:=List.mem_flatten.mp h;obtain⟨c,_,rfl⟩:=zAA.mp hl;obtain⟨l2,hl2,hr2⟩:=List.mem_flatten.mp hr;obtain⟨t,_,rfl⟩:=zAA.mp hl2;obtain⟨p,_,rfl⟩:=zAA.mp hr2;exact⟨c,t,p,rfl⟩
theorem Nk {α β:Type} (p:β->Bool) (f:α->List β):∀ l:List α,(l.map f).flatten.filter p=(l.map fun x=>(f x).filter p).flatten
 | []=>rfl
 | x::l=>by rw[zAw,zBi,zBC,Nk p f l,zAw,zBi]
theorem Qh {β:Type} {x:Str} {R:List β}:∀ {l:List Str},l.Nodup->x∈l->(l.map fun y=>if y=x then R else []).flatten=R
 | y::l,nd,h=>by
  rw[zBp] at nd;rw[zAw,zBi];rcases zAq.mp h with e | e
  ·subst e
   have z:(l.map fun y=>if y=x then R else []).flatten=[]:=by
    rw[List.flatten_eq_nil_iff];intro l' hl';obtain⟨y,hy,rfl⟩:=zAA.mp hl';exact if_neg fun (e:y=x)=>nd.1 (by rw[<- e]; exact hy)
   rw[if_pos rfl,z,zAT]
  ·rw[if_neg (fun (z:y=x)=>nd.1 (by rw[z]; exact e)),List.nil_append]
   exact Qh nd.2 e
theorem C4 {A:List Str} (nA:A.Nodup) (eA:("" : Str)∉A):(A++[("" : Str)]).Nodup:=by
 rw[List.nodup_append];refine⟨nA,by simp,fun a ha b hb=>?_⟩;rw[zAk.mp hb];exact fun e=>eA (e▸ha)
theorem Yf {A B:List Str} {D:List Int} {x1 x2:Str} (nA:A.Nodup) (nB:B.Nodup) (eA:("" : Str)∉A) (eB:("" : Str)∉B) (h1:x1∈A++[("" : Str)]) (h2:x2∈B++[("" : Str)]):(Cu B D (A++[("" : Str)])).filter (Pq x1 x2)=(Ck D).map (Cf x1 x2):=by
 have inner:∀ c t,((Ck D).map (Cf c t)).filter (Pq x1 x2)=if c=x1/\t=x2 then (Ck D).map (Cf x1 x2) else []:=fun c t=>by
  by_cases z:c=x1/\t=x2
  ·rw[if_pos z]
   obtain⟨rfl,rfl⟩:=z;refine List.filter_eq_self.mpr fun r hr=>?_;obtain⟨p,_,rfl⟩:=zAA.mp hr;rw[Wi];exact decide_eq_true ⟨rfl,rfl⟩
  ·rw[if_neg z]
   refine List.filter_eq_nil_iff.mpr fun r hr=>?_;obtain⟨p,_,rfl⟩:=zAA.mp hr;rw[Wi,decide_eq_false z];exact zAi
 have mid:∀ c,(Fi c D (B++[("" : Str)])).filter (Pq x1 x2)=if c=x1 then (Ck D).map (Cf x1 x2) else []:=fun c=>by
  unfold Fi;rw[Nk];by_cases z:c=x1
  ·rw[if_pos z]
   have e:(fun th=>((Ck D).map (Cf c th)).filter (Pq x1 x2))=fun th=>if th=x2 then (Ck D).map (Cf x1 x2) else []:=by
    funext th
    rw[inner];by_cases y:th=x2
    ·rw[if_pos ⟨z,y⟩,if_pos y]
    ·rw[if_neg (fun h=>y h.2),if_neg y]
   rw[e];exact Qh (C4 nB eB) h2
  ·rw[if_neg z,List.flatten_eq_nil_iff]
   intro l' hl';obtain⟨y,hy,rfl⟩:=zAA.mp hl';rw[inner];exact if_neg fun h=>z h.1
 unfold Cu;rw[Nk,funext mid];exact Qh (C4 nA eA) h1
section
variable {P:Program} {w:World} {K:zAb} {mg:Str->Option Value} {base:Heap}
theorem Ug:Bb ["_law_cells", "_law_marks_here", "_law_drawn", "_law_things", "_law_causes", "_law_cause", "_law_thing", "_law_day", "_law_some"] ["_law_cells", "_law_marks_here", "_law_drawn", "_law_things", "_law_causes"] (An Ix):=by injections
theorem Ul {f:Addr} {fd:zCt} (F:Fun K "_law_once" "_law_once" Ix f fd) (T:Txt K mg):FnOk P w K mg base Dv 1 f fd ["_law_cells", "_law_marks_here", "_law_drawn", "_law_things", "_law_causes"] Yu:=by
 have sc:=Ug;bv_omega
 ·obtain⟨_,_,_,_,_,_,_,_,_,_,_,rfl,_⟩:=h
  rfl
 have hu64:=Ow hr;obtain⟨c,m,th,ca,xs,dr,A',B',D',TH,CA,rfl,hc,tp,⟨ma,mb,mc,md,hm,hma,hmb⟩,hth,hca,lT,lC,d0,nA,nB,eA,eB,pD,rD,lA,lB,lD,q⟩:=h;refine⟨_,(Ae (Ba (i:=5) sc.nd rfl (Or.inr rfl) (Av Bu (Ao Dz (pv 4) (Bq (Aa Bi Af))) (Ao Br (pv 2) Ac) (fun _ _=>rfl)))
   (Ae (Ba (i:=6) sc.nd rfl (Or.inr rfl) (Av Bu (Ao Dz (pv 3) (Bq (Aa Bi Af))) (Ao Br (Ao By (pv 2) Ac) Ac) (fun _ _=>rfl)))
   (Ae (Ba (i:=7) sc.nd rfl (Or.inr rfl) (Ao Br (Ao By (pv 2) Ac) (Ao Ca (Ao Hw Ac Ac) Ac)))
   (Ae (Bm (Ay Db (Ao Br (pv 2) Ac) Ac (Bd _))
    (Aj (Ba (i:=7) sc.nd rfl (Or.inr rfl) (Ao Ca (Ao Fe Ac (Ao Br (Ao By (pv 2) Ac) Ac)) (Ao Br (Ao By (pv 2) Ac) Ac))))
    Bc)
   (Ae (Bm (Ay Db (Ao Br (pv 2) Ac) Ac (Bd _))
    (Aj (Ba (i:=7) sc.nd rfl (Or.inr rfl) (Ao Fy (Ao Hw Ac Ac) (Ao Br (Ao By (pv 2) Ac) Ac))))
    Bc)
   (Ae (Bm (Ay Du (pv 5) (Av Bu (pv 1) Ac (fun _ _=>rfl)) rfl)
    (Aj (Ba (i:=5) sc.nd rfl (Or.inr rfl) Bi))
    Bc)
   (Ae (Bm (Ay Du (pv 6) (Av Bu (pv 1) Ac (fun _ _=>rfl)) rfl)
    (Aj (Ba (i:=6) sc.nd rfl (Or.inr rfl) Bi))
    Bc)
   (Ae (Fp (NC:=["_law_cell_here", "_law_cause", "_law_thing"]) (own:=["_law_cell_here"]) (cs:=["_law_cause", "_law_thing"]) (ix:=[5,6]) (j:=8) sc.nd rfl rfl rfl (CompScope.of rfl) rfl ⟨⟨rfl,.inl rfl,rfl⟩,⟨⟨rfl,.inl rfl,rfl⟩,trivial⟩⟩ (Bn (pv 0)) (fun _ _ _=>(Bh (i:=0) (show (["_law_cell_here", "_law_cause", "_law_thing"]:List Str).Nodup from by ac_nf) rfl (Or.inl rfl))) (fun _ _ _=>(Go (Ay (Ra (K:=K) hu64) (Hf (X1 (K:=K) rfl) (pv 0) Lz (Hv Ac)) (Cj (Aa (pv 1) (Aa (pv 2) Af))) (Bd _)))) (fun _ _ _=>(pv 0)))
   (Aj (Au (Dg Db (Bg Bk rfl T.n_len (show zCs _=some (.builtin "len") from rfl) (Aa (Da (NC:=["_law_cell_here", "_law_day"]) (own:=["_law_cell_here"]) (cs:=["_law_day"]) (ix:=[7]) rfl (CompScope.of rfl) rfl ⟨⟨rfl,.inl rfl,rfl⟩,trivial⟩ (Bn (pv 8)) (fun _ _ _=>(Bh (i:=0) (show (["_law_cell_here", "_law_day"]:List Str).Nodup from by ac_nf) rfl (Or.inl rfl))) (fun _ _ _=>(Go (Iz Ge Ge (Av (Gn (K:=K) rfl) (pv 0) Ac (fun _ _=>rfl)) (pv 1) (Av (Gn (K:=K) rfl) (pv 0) Ac (fun _ _=>rfl))))) (fun _ _ _=>(pv 0))) Af)) Ac (Bd _)))))))))))),?_⟩
 have sl:=zCr;have one:1<=sizeLine:=by lia
 have e6:(10:Int)^(6:Int).toNat=1000000:=by ac_nf
 refine Oo fun N eN=>?_;obtain⟨z1,_,a1⟩:=Uu (ns:=CA++[("y" : Str)]) (i:=dr%4) (by lia) (by rw[zAe,lC]; show _<(4:Int); lia);rw[zAn] at a1;refine (vE rfl ⟨one,fun o1 n1=>?_⟩);refine⟨ca,o1,_,_,rfl,rfl,Ag n1 _ _ _ hca,Ab,by rw[zAa,lC]; show 3+1<=_; lia,fun a na=>vE rfl (vF rfl rfl ⟨(by show (0:Int)<4; decide),vI rfl rfl (SqL.of Ab) a1 ?_⟩)⟩;refine Jk eN [some (.ref c),some (.ref m),some (.int dr),some (.ref th),some (.ref ca),some (.str z1),none,none,none] rfl fun N eN=>?_;have s1:Same H _:=(Gb (xs:=CA.map V.str) n1 na).1;generalize upd (upd H o1 (.lst [.str "y"])) a (.lst (CA.map V.str++[.str "y"]))=H1 at s1;obtain⟨z2,_,a2⟩:=Uu (ns:=TH++[("z" : Str)]) (i:=dr/4%4) (by lia) (by rw[zAe,lT]; show _<(4:Int); lia);rw[zAn] at a2;refine (vE rfl ⟨one,fun o2 n2=>?_⟩);refine⟨th,o2,_,_,rfl,rfl,Ag n2 _ _ _ (s1 _ _ hth),Ab,by rw[zAa,lT]; show 3+1<=_; lia,fun b nb=>vE rfl (vF rfl rfl ⟨⟨by decide,by decide⟩,vF rfl rfl ⟨(by show (0:Int)<4; decide),vI rfl rfl (SqL.of Ab) a2 ?_⟩⟩)⟩;refine Jk eN [some (.ref c),some (.ref m),some (.int dr),some (.ref th),some (.ref ca),some (.str z1),some (.str z2),none,none] rfl fun N eN=>?_;have s2:=s1.trans (Gb (xs:=TH.map V.str) n2 nb).1;generalize upd (upd H1 o2 (.lst [.str "z"])) b (.lst (TH.map V.str++[.str "z"]))=H2 at s2;clear a1 a2 n1 na n2 nb s1;refine (vE rfl (vF rfl rfl ⟨⟨by decide,by decide⟩,vF rfl rfl ⟨⟨by decide,by decide,by decide⟩,vF rfl rfl (vF rfl rfl ⟨(by show (0:Int)<(10:Int)^(6:Int).toNat+1; rw[e6]; decide),?_⟩)⟩⟩));refine Wb 0 1000000 ⟨Int.emod_nonneg _ (by rw[e6]; decide),by have:=Int.emod_lt_of_pos (dr/16) (b:=(10:Int)^(6:Int).toNat+1) (by rw[e6]; decide); rw[e6] at this ⊢; lia⟩ fun dy d0' d1'=>?_
 refine Jk eN [some (.ref c),some (.ref m),some (.int dr),some (.ref th),some (.ref ca),some (.str z1),some (.str z2),some (.int dy),none] rfl fun N eN=>?_;have go:∀ dy:Int,0<=dy->dy<=1000000->N [some (.ref c),some (.ref m),some (.int dr),some (.ref th),some (.ref ca),some (.str z1),some (.str z2),some (.int dy),none] H2:=?go1
 ·refine (vE rfl (vF rfl rfl ⟨(by show (0:Int)<3; decide),rfl,vE rfl ?_⟩))
  by_cases e:V.int (dr%3)=V.int 1
  ·refine dT e (vE rfl (vF rfl rfl ⟨⟨by decide,by decide⟩,vF rfl rfl ⟨(by show (0:Int)<4; decide),vF rfl rfl ⟨.inl ⟨by decide,by decide⟩,vE rfl (vF rfl rfl ⟨⟨by decide,by decide⟩,vF rfl rfl ⟨(by show (0:Int)<4; decide),vF rfl rfl ?_⟩⟩)⟩⟩⟩))
   exact Gk [some (.ref c),some (.ref m),some (.int dr),some (.ref th),some (.ref ca),some (.str z1),some (.str z2),some (.int (365*(dr/16%4)+dr/64%4)),none] rfl (go _ (by lia) (by lia))
  ·exact dF e (go dy d0' d1')
 clear d0' d1' dy;intro dy d0' d1';refine Lg eN fun N eN=>?_;have go:∀ dy:Int,0<=dy->dy<=1000000->N [some (.ref c),some (.ref m),some (.int dr),some (.ref th),some (.ref ca),some (.str z1),some (.str z2),some (.int dy),none] H2:=?go2
 ·refine (vE rfl (vF rfl rfl ⟨(by show (0:Int)<9; decide),rfl,vE rfl ?_⟩))
  by_cases e:V.int (dr%9)=V.int 2
  ·refine dT e (vF rfl rfl ⟨⟨by decide,by decide,by decide⟩,vE rfl (vF rfl rfl ⟨⟨by decide,by decide⟩,vF rfl rfl ⟨(by show (0:Int)<5; decide),vF rfl rfl ?_⟩⟩)⟩)
   exact Gk [some (.ref c),some (.ref m),some (.int dr),some (.ref th),some (.ref ca),some (.str z1),some (.str z2),some (.int ((10:Int)^(6:Int).toNat-dr/16%5)),none] rfl (go _ (by rw[e6]; lia) (by rw[e6]; lia))
  ·exact dF e (go dy d0' d1')
 clear d0' d1' dy;intro dy d0' d1';refine Lg eN fun N eN=>?_;have go:∀ x,x∈A'++[("" : Str)]->N [some (.ref c),some (.ref m),some (.int dr),some (.ref th),some (.ref ca),some (.str x),some (.str z2),some (.int dy),none] H2:=?go3
 ·refine (vE rfl (vE rfl (vI rfl rfl (SqL.of (s2 _ _ hm)) rfl ⟨ma,_,rfl,.inl (SqL.of (s2 _ _ hma)),rfl,Cy A',vE rfl ?_⟩)))
  refine (show (if (!Pn (.str z1) (A'.map V.str))=true then _ else _) from ?_);rw[Tf];by_cases e:z1∈A'
  ·exact nF e (go z1 (zBE _ e))
  ·exact nT e (Gk [some (.ref c),some (.ref m),some (.int dr),some (.ref th),some (.ref ca),some (.str ""),some (.str z2),some (.int dy),none] rfl (go "" (zAI _ (zAk.mpr rfl))))
 intro x1 hx1;refine Lg eN fun N eN=>?_;have go:∀ x,x∈B'++[("" : Str)]->N [some (.ref c),some (.ref m),some (.int dr),some (.ref th),some (.ref ca),some (.str x1),some (.str x),some (.int dy),none] H2:=?go4
 ·refine (vE rfl (vE rfl (vI rfl rfl (SqL.of (s2 _ _ hm)) rfl ⟨mb,_,rfl,.inl (SqL.of (s2 _ _ hmb)),rfl,Cy B',vE rfl ?_⟩)))
  refine (show (if (!Pn (.str z2) (B'.map V.str))=true then _ else _) from ?_);rw[Tf];by_cases e:z2∈B'
  ·exact nF e (go z2 (zBE _ e))
  ·exact nT e (Gk [some (.ref c),some (.ref m),some (.int dr),some (.ref th),some (.ref ca),some (.str x1),some (.str ""),some (.int dy),none] rfl (go "" (zAI _ (zAk.mpr rfl))))
 intro x2 hx2;refine Lg eN fun N eN=>?_;have tp2:=tp.same s2;have hc2:=s2 _ _ hc;have lx:xs.length<=61*(61*61):=by
  rw[tp.len,Gf,zAe];exact zBv (by show A'.length+1<=61; lia) (zBv (by lia) (by lia))
 refine (vE rfl ⟨c,rfl,⟨_,SqL.of hc2⟩,fun r nr=>?_⟩);refine Cc (K:=K) (a:=c) (xs:=xs) (fun i ys H3=>Tps H3 ys (((Cu B' D' (A'++[("" : Str)])).take i).filter (Pq x1 x2))/\H3 r=some (.lst ys)/\ys.length<=i/\Same H2 H3) ⟨by rw[zAY]; trivial,Ab,zAg _,Ag nr _⟩
  (fun i ys H3 _ ⟨_,h1,l,s3⟩=>⟨h1,l,SqL.of (s3 _ _ hc2)⟩) (by lia) (fun i v ys H3 hi ⟨t3,h3,l3,s3⟩=>?_) (fun ys H3 ⟨t3,h3,l3,s3⟩=>?_)
 ·obtain⟨t,rr,hrr,rfl,ht⟩:=tp2.get hi
  obtain⟨c',t',pr,rfl⟩:=Kp (zAu hrr);have ht3:H3 t=some (.tup [.str c',.str t',.int pr.1,.int pr.2]):=s3 _ _ ht;refine (vE rfl (vE rfl ⟨t,_,rfl,SqT.of ht3,fun h=>absurd (show (2:Nat)=4 from h.2) (by decide),fun p1 m1=>?_⟩));have u1:=Ag m1 (.tup [V.str c',.str t']);have g1:upd H3 p1 (.tup [V.str c',.str t']) p1=some (.tup [V.str c',.str t']):=Ab;refine (vE rfl (vE rfl ⟨Ce (by show 2<=1000; decide),fun p2 m2=>?_⟩));have u2:=Ag m2 (.tup [V.str x1,.str x2]);refine⟨true,_,_,Ic (u2 _ _ g1) rfl,Ic (K:=K) (vs:=[V.str x1,.str x2]) Ab rfl,by rw[Fw,Fw]; decide,vE rfl ?_⟩;refine (show (if eqDs ([V.str c',.str t'].map L2.D.at) ([V.str x1,.str x2].map L2.D.at)=true then _ else _) from ?_);rw[Gz];have u12:=u1.trans u2;have es:Pq x1 x2 (Cf c' t' pr)=Np [V.str c',.str t'] [V.str x1,.str x2]:=rfl;have nx:((Cu B' D' (A'++[("" : Str)])).take (i+1)).filter (Pq x1 x2)=((Cu B' D' (A'++[("" : Str)])).take i).filter (Pq x1 x2)++if Pq x1 x2 (Cf c' t' pr)=true then [Cf c' t' pr] else []:=by
   rw[Cd hrr,zBC];by_cases z:Pq x1 x2 (Cf c' t' pr)=true
   ·rw[if_pos z,zBl z,zBq]
   ·rw[if_neg z,zBd z,zBq]
  cases z:Np [V.str c',.str t'] [V.str x1,.str x2] with
  | true=>
   refine Kn (vE rfl ⟨u12 _ _ h3,rfl,?_,Ab,by rw[zAe]; exact Nat.succ_le_succ l3,Bv nr (s3.trans u12)⟩);rw[nx,es,z,if_pos rfl];exact ((t3.same u12).lst (u12 _ _ h3)).app ⟨⟨t,rfl,by rw[Ar (AF (u12 _ _ ht3) (u12 _ _ h3))]; exact u12 _ _ ht3⟩,trivial⟩
  | false=>
   refine Cg ⟨rfl,?_,u12 _ _ h3,Nat.le_succ_of_le l3,s3.trans u12⟩;rw[nx,es,z,if_neg zAi,zAT];exact t3.same u12
 rw[tp.len,zAz,Yf nA nB eA eB hx1 hx2] at t3;refine Gk [some (.ref c),some (.ref m),some (.int dr),some (.ref th),some (.ref ca),some (.str x1),some (.str x2),some (.int dy),some (.ref r)] rfl ?_;show N _ H3;rw[eN];have ly:ys.length=D'.length+1:=by rw[t3.len,zAa,Dp]
 refine (vE rfl ⟨r,rfl,⟨_,SqL.of h3⟩,fun p np=>?_⟩);refine Cc (K:=K) (a:=r) (xs:=ys) (fun i zs H4=>zs.length=(((Ck D').take i).filter (Ev dy)).length/\H4 p=some (.lst zs)/\Same H3 H4) ⟨by rw[zAY]; rfl,Ab,Ag np _⟩
  (fun i zs H4 _ ⟨l,h1,s4⟩=>⟨h1,by rw[l]; exact zAE (zAZ _ _) (by rw[zAB]; lia),SqL.of (s4 _ _ h3)⟩) (by lia) (fun i v zs H4 hi ⟨l,h4,s4⟩=>?_) (fun zs H4 ⟨l,h4,s4⟩=>?_)
 ·obtain⟨t,rr,hrr,rfl,ht⟩:=t3.get hi
  rw[zAl] at hrr;obtain⟨pr,hpr,rfl⟩:=zAy.mp hrr;have ht4:H4 t=some (.tup [.str x1,.str x2,.int pr.1,.int pr.2]):=s4 _ _ ht;have nx:(((Ck D').take (i+1)).filter (Ev dy)).length=(((Ck D').take i).filter (Ev dy)).length+if Ev dy pr=true then 1 else 0:=by
   rw[Cd hpr,zBC,zAe];by_cases z:Ev dy pr=true
   ·rw[if_pos z,zBl z,zBq]
    rfl
   ·rw[if_neg z,zBd z,zBq]
    rfl
  refine (vE rfl (vI rfl rfl (SqT.of ht4) rfl (vE rfl (vF rfl rfl (vE rfl ?_)))));by_cases c1:pr.1<=dy
  ·refine dT c1 (vE rfl (vI rfl rfl (SqT.of ht4) rfl (vF rfl rfl (vE rfl ?_))))
   by_cases c2:dy<=pr.2
   ·refine dT c2 (vE rfl ⟨h4,rfl,?_,Ab,Bv np s4⟩)
    rw[nx,if_pos (by exact decide_eq_true ⟨c1,c2⟩),zAe,l];rfl
   ·refine dF c2 ⟨rfl,?_,h4,s4⟩
    rw[nx,if_neg (by exact fun h=>c2 (of_decide_eq_true h).2),l];rfl
  ·refine dF c1 (vE rfl (Cg ⟨rfl,?_,h4,s4⟩))
   rw[nx,if_neg (by exact fun h=>c1 (of_decide_eq_true h).1),l];rfl
 ·refine⟨p,zs,rfl,.inl (SqL.of h4),rfl,?_⟩
  rw[ly,<- Dp D',zAz,X5 pD rD d0' d1'] at l;show Q (V.bl (decide (V.int (zs.length:Int)=V.int 1))) H4;rw[decide_eq_true (show V.int (zs.length:Int)=V.int 1 by rw[l]; rfl)];exact q _ (s2.trans (s3.trans s4))
def EF (K:zAb):Sp:=fun vs H Q _=>∃ a e ns,∃ u:Int,∃ E:List Int,vs=[.ref a,.ref e,.int u]/\SqL K H a (List.map V.int ns)/\ns.length<=63/\Qy u/\H e=some (.lst (List.map V.int E))/\∀ (bd:Int) H',Same H H'->1<=bd->Q (.int bd) H'
theorem Rn:Bb ["_law_script", "_law_amounts", "_law_unit_here", "_law_cell_here"] ["_law_script", "_law_amounts", "_law_unit_here"] (An Ib):=by injections
theorem Sb {f:Addr} {fd:zCt} (F:Fun K "_law_bound" "_law_bound" Ib f fd) (T:Txt K mg) (C_law_cell:Ct P w K mg base 1 "_law_cell" ["_law_script", "_law_k"] (Nj K)):FnOk P w K mg base Dv 2 f fd ["_law_script", "_law_amounts", "_law_unit_here"] (EF K):=by
 have sc:=Rn;bv_omega
 ·obtain⟨_,_,_,_,_,rfl,_⟩:=h
  rfl
 have hu0:=Xo hr;obtain⟨a,e,ns,u,E',rfl,ha,h63,uo,he,q⟩:=h;refine⟨_,(Ae (Ba (i:=3) sc.nd rfl (Or.inl rfl) (Am C_law_cell (hr.mono (by decide)) rfl (Aa (pv 0) (Aa Ac Af))))
   (Ae (Bm (PW.pt (Mv (Ay Db (Ao Br (pv 3) Ac) Ac (Bd _)) (Lu (Ay (DT hu0) (pv 1) (Bq Af) (Bd _)))))
    (Aj (Au (Bg (E1 rfl) rfl T.n_max (show zCs _=some (.builtin "max") from rfl) (Aa Ac (Aa (Ao Fy (Ao Ca (Av Bu (pv 1) Ac (fun _ _=>rfl)) (Ao Br (Ao By (pv 3) Ac) Ac)) Ac) Af)))))
    Bc)
   (Aj (Au (Ao Ca Ac (Ao Br (Am C_law_cell (hr.mono (by decide)) rfl (Aa (pv 0) (Aa Ac Af))) (Av Bu (Bq (Aa (Ao Fe Ac (pv 2)) (Aa (Ao Fy (Ao Hw Ac Ac) Ac) Af))) (Ao Br (pv 3) Ac) (fun _ _=>rfl)))))))),?_⟩
 have sl:=zCr;refine (vE rfl ⟨a,ns,7,rfl,ha,by decide,h63,?_⟩);generalize ns.getD (7:Int).toNat 0=c;refine Gk [some (.ref a),some (.ref e),some (.int u),some (.int c)] rfl ?_;have e12:(10:Int)^(12:Int).toNat-1=999999999999:=by ac_nf
 have last:∀ H2,Same H H2->Zh (Tb (W6 fun i j=>V.int (i+j)) (tC (V.int 1)) (Tb (rI (fun x j=>0<j) fun i j=>V.int (i%j)) (Xi (Nj K) [] E0 (Eh (Fz 0) (Eh (tC (V.int 6)) Uz))) (Tb (EC K) (CQ (Eh (Tb (rI CMul fun i j=>V.int (i*j)) (tC (V.int 39)) (Fz 2)) (Eh (Tb (W6 fun i j=>V.int (i-j)) (Tb (rI EL fun i j=>V.int (i^j.toNat)) (tC (V.int 10)) (tC (V.int 12))) (tC (V.int 1))) Uz))) (Tb (rI (fun x j=>0<j) fun i j=>V.int (i%j)) (Fz 3) (tC (V.int 2)))))) { nx:=fun x H'=>Q V.non H',rt:=Q } [some (.ref a),some (.ref e),some (.int u),some (.int c)] H2:=fun H2 s2=>by
  refine (vE rfl ⟨a,ns,6,rfl,s2.seq ha,by decide,h63,vE rfl (vF rfl rfl ⟨.inl ⟨by decide,by decide⟩,vF rfl rfl ⟨⟨by decide,by decide,by decide⟩,vF rfl rfl ⟨Ce (by show 2<=1000; decide),fun p np=>?_⟩⟩⟩)⟩);obtain⟨u1,u2⟩:=uo;have mm:∃ m:Int,Nt [V.int (39*u),.int ((10:Int)^(12:Int).toNat-1)] (c%2)=some (.int m)/\0<m:=by
   have z:c%2=0\/c%2=1:=by lia
   rcases z with z | z
   ·rw[z]
    exact⟨_,rfl,by lia⟩
   ·rw[z]
    exact⟨_,rfl,by rw[e12]; decide⟩
  obtain⟨m,em,mp⟩:=mm;refine (vE rfl (vF rfl rfl ⟨(by show (0:Int)<2; decide),vI rfl rfl (SqL.of Ab) em (vF rfl rfl ⟨mp,vF rfl rfl ?_⟩)⟩));refine q _ _ (s2.trans (Ag np _)) ?_;have:=Int.emod_nonneg (ns.getD (6:Int).toNat 0) (b:=m) (by lia);show 1<=1+ns.getD (6:Int).toNat 0%m
  lia
 refine (vE rfl (vF rfl rfl ⟨(by show (0:Int)<3; decide),rfl,vE rfl ?_⟩));by_cases c3:V.int (c%3)=V.int 2
 ·refine dT c3 (vE rfl ⟨zAC _,fun p np=>?_⟩)
  have s1:=Ag np (.lst []);refine⟨e,p,_,rfl,rfl,SqL.of (s1 _ _ he),SqL.of Ab,vE rfl ?_⟩;cases E' with
  | nil=>exact Cg (last _ s1)
  | cons y ys=>
   refine Kn (vE rfl (vI rfl rfl (SqL.of (s1 _ _ he)) (at0 (V.int y) (ys.map V.int)) (vE rfl (vF rfl rfl ⟨⟨by decide,by decide⟩,vF rfl rfl ⟨(by show (0:Int)<3; decide),vF rfl rfl (vF rfl rfl ⟨_,_,rfl,?_⟩)⟩⟩))));refine q _ _ s1 ?_
   split <;> lia
 ·exact dF c3 (Cg (last H (Same.refl H)))
end
def hid (H:Hp) (a:Addr):Hp:=fun b=>if b=a then none else H b
theorem Kg {H:Hp} {a b:Addr} (h:b≠a):hid H a b=H b:=if_neg h
theorem Kf {H:Hp} {a b:Addr} {o:HO} (e:hid H a b=some o):b≠a/\H b=some o:=by
 by_cases c:b=a
 ·subst c
  unfold hid at e;rw[if_pos rfl] at e;cases e
 ·rw[Kg c] at e
  exact⟨c,e⟩
theorem Vx (H:Hp) (a:Addr):Same (hid H a) H:=fun b o e=>(Kf e).2
theorem Xe {H H':Hp} {a:Addr} (s:∀ b o,b≠a->H b=some o->H' b=some o):Same (hid H a) (hid H' a):=fun b o e=>by
 obtain⟨n,e⟩:=Kf e;rw[Kg n];exact s b o n e
theorem Q7 {H H' H2:Hp} {r:Addr} {o:HO} (h:H r=some o) (s:∀ b o,b≠r->H' b=some o->H2 b=some o):Same (Nw H H') (hid H2 r):=fun b u e=>by
 obtain⟨n,e⟩:=Nw.at e;have br:b≠r:=fun z=>by rw[z,h] at n; cases n
 rw[Kg br];exact s b u br e
theorem Vf (xs:List V) (k:Nat):Hd xs none (some (k:Int))=xs.take k:=by
 unfold Hd;rw[HT.sIx_nat,HT.sIx_none,List.drop_zero,Nat.sub_zero];rcases Nat.le_total k xs.length with c | c
 ·rw[Nat.min_eq_left c]
 ·rw[Nat.min_eq_right c,zAz,List.take_of_length_le c]
theorem AZ {z:Str} (h:Lp (.str z)=true):Rv z:=⟨z.cps.toList,(BU z).symm,of_decide_eq_true h⟩
theorem Ln:∀ ts:List Dx,marksTs ts=(ts.map Bf).flatten
 | []=>by rw[Dm]; rfl
 | t::ts=>by rw[Df,Ln ts,zAw,zBi]
theorem EQ (cs:List Cw):mB cs=marksTs (cs.map (·.t)):=by
 rw[Ln,List.map_map];rfl
def X6 (x:Cw):Cv:=(x.p,x.nm,x.wt)
theorem BI (cs:List Cw):(cs.map X6).map Re=cs.map EI:=by
 rw[List.map_map];rfl
theorem DZ (cs:List Cw):(Z2 (cs.map X6)).map Re=(CC cs).map EI:=by
 unfold Z2 CC;rw[zAn,zAn,List.filter_map,List.filter_map,List.map_map,List.map_map];rfl
theorem BW {κ:A8} {C:Addr} {H:Hp} {cs:List Cw} (h:∀ x∈cs,CwAt κ C H x):CvsAt C H (cs.map X6):=fun c hc=>by
 obtain⟨x,hx,rfl⟩:=zAA.mp hc;obtain⟨dx,fs,_,_,e,a1,_,_,a4,_⟩:=h x hx;exact⟨dx,fs,e,a1,a4⟩
theorem Xb {K:zAb} {H:Hp}:∀ {xs:List V} {rs:List (List V)},Tps H xs rs->(∀ r∈rs,r.all Ci=true)->Reps K H (rs.map (Hx true)) xs
 | [],[],_,_=>by rw[zBr]; unfold Reps; rfl
 | x::xs,r::rs,h,f=>by
  obtain⟨⟨t,rfl,ht⟩,h2⟩:=h;rw[zAw];unfold Reps;exact⟨_,xs,rfl,Ic ht (f r zAo),Xb h2 fun r hr=>f r (zAm _ hr)⟩
 | [],_::_,h,_=>h.elim
 | _::_,[],h,_=>h.elim
theorem Tw:∀ {ts:List Dx},(∀ t∈ts,W8 t)->∃ (x y:Nat) (c1 c2 ds:List V),x+y<=ts.length/\c1.length<=x/\c2.length<=x/\ds.length<=2*y/\(∀ v∈Bp "cause" (marksTs ts),v∈c1/\v ≠ .str "")/\(∀ v∈Bp "thing" (marksTs ts),v∈c2/\v ≠ .str "")/\∀ v∈Bp "day" (marksTs ts),v∈ds
 | [],_=>by
  rw[Dm];exact⟨0,0,[],[],[],zAg _,zAg _,zAg _,zAg _,fun v h=>(nomatch h),fun v h=>(nomatch h),fun v h=>(nomatch h)⟩
 | t::ts,h=>by
  obtain⟨x,y,c1,c2,ds,lx,l1,l2,l3,h1,h2,h3⟩:=Tw (ts:=ts) fun u hu=>h u (zAm _ hu);have up:∀ {so:Str} {v:V},v∈Bp so (marksTs (t::ts))->((so,v):Gy)∈Bf t\/v∈Bp so (marksTs ts):=fun {so v} hv=>by
   rw[Df,Jn,zAW] at hv;exact hv.imp Hl id
  rcases (h t zAo).2 with ⟨n1,n2,k,e1,e2,hm⟩ | ⟨a,b,hm⟩
  ·refine⟨x+1,y,.str n1::c1,.str n2::c2,ds,by rw[zAj]; lia,by rw[zAj]; lia,by rw[zAj]; lia,l3,fun v hv=>?_,fun v hv=>?_,fun v hv=>?_⟩
   ·rcases up hv with z | z
    ·rcases hm _ z with e | e | e
     ·have ev:v = .str n1:=(Prod.mk.inj e).2
      rw[ev];exact⟨zAo,fun e=>e1 (V.str.inj e)⟩
     ·exact absurd (Prod.mk.inj e).1 (by ac_nf)
     ·exact absurd (Prod.mk.inj e).1 (by ac_nf)
    ·exact⟨zAm _ (h1 v z).1,(h1 v z).2⟩
   ·rcases up hv with z | z
    ·rcases hm _ z with e | e | e
     ·exact absurd (Prod.mk.inj e).1 (by ac_nf)
     ·have ev:v = .str n2:=(Prod.mk.inj e).2
      rw[ev];exact⟨zAo,fun e=>e2 (V.str.inj e)⟩
     ·exact absurd (Prod.mk.inj e).1 (by ac_nf)
    ·exact⟨zAm _ (h2 v z).1,(h2 v z).2⟩
   ·rcases up hv with z | z
    ·rcases hm _ z with e | e | e <;> exact absurd (Prod.mk.inj e).1 (by ac_nf)
    ·exact h3 v z
  ·refine⟨x,y+1,c1,c2,.int a :: .int b::ds,by rw[zAj]; lia,l1,l2,by rw[zAj,zAj]; lia,fun v hv=>?_,fun v hv=>?_,fun v hv=>?_⟩
   ·rcases up hv with z | z
    ·rcases hm _ z with e | e <;> exact absurd (Prod.mk.inj e).1 (by ac_nf)
    ·exact h1 v z
   ·rcases up hv with z | z
    ·rcases hm _ z with e | e <;> exact absurd (Prod.mk.inj e).1 (by ac_nf)
    ·exact h2 v z
   ·rcases up hv with z | z
    ·rcases hm _ z with e | e
     ·rw[(Prod.mk.inj e).2]
      exact zAo
     ·rw[(Prod.mk.inj e).2]
      exact zAm _ zAo
    ·exact zAm _ (zAm _ (h3 v z))
theorem B0 {A:List Str} {c:List V} (nd:A.Nodup) (h:∀ y∈A,V.str y∈c):A.length<=c.length:=by
 have nd2:(A.map V.str).Nodup:=by
  rw[zAJ] at nd ⊢;rw[zBo];exact nd.imp fun n e=>n (V.str.inj e)
 have:=Es (m:=c) nd2 fun v hv=>by
  obtain⟨y,hy,rfl⟩:=zAA.mp hv;exact h y hy
 rw[zAa] at this;exact this
theorem Y3 {A:List Int} {c:List V} (nd:A.Pairwise (· < ·)) (h:∀ y∈A,V.int y∈c):A.length<=c.length:=by
 have nd2:(A.map V.int).Nodup:=by
  rw[zAJ,zBo];exact nd.imp fun n e=>by
   have:=V.int.inj e
   lia
 have:=Es (m:=c) nd2 fun v hv=>by
  obtain⟨y,hy,rfl⟩:=zAA.mp hv;exact h y hy
 rw[zAa] at this;exact this
theorem FD:∀ x:Fin 5,∀ y:Fin 5,x.val+y.val<=4->(x.val+1)*(x.val+1)*(2*y.val+1)<=120:=by decide
theorem AC {cs:List Cw} {ts:List Dx} (e:mB cs=marksTs ts) (sh:∀ t∈ts,W8 t) (l4:ts.length<=4):Wd cs:=by
 intro A B D nA mA nB mB' pD mD;obtain⟨x,y,c1,c2,ds,lx,l1,l2,l3,h1,h2,h3⟩:=Tw sh;rw[e] at mA mB' mD;have a1:=B0 nA fun y hy=>(h1 _ ((mA y).mp hy)).1;have a2:=B0 nB fun y hy=>(h2 _ ((mB' y).mp hy)).1;have a3:=Y3 pD fun y hy=>h3 _ ((mD y).mp hy).1;refine zAE (zBv (zBv (show A.length+1<=x+1 by lia) (show B.length+1<=x+1 by lia)) (show D.length+1<=2*y+1 by lia)) ?_;exact FD ⟨x,by lia⟩ ⟨y,by lia⟩ (by show x+y<=4; lia)
theorem L3 {ts:List Dx} (sh:∀ t∈ts,W8 t):(marksTs ts).length<=3*ts.length:=by
 induction ts with
 | nil=>rw[Dm]; exact zAC _
 | cons t ts ih=>
  rw[Df,zAe,zAj];have h1:=(sh t zAo).1;have h2:=ih fun u hu=>sh u (zAm _ hu)
  lia
def wordsL:List Str:=["cause", "thing", "day", "cents"]
def MkS (ts:List Dx) (so:Str) (x:Addr) (H:Hp):Prop:=
 ((so = "cause" \/ so = "thing")/\∃ zs:List Str,H x=some (.lst (List.map V.str zs))/\zs.Nodup/\PyProof.Rows.sortedS zs=true/\∀ y,y∈zs↔V.str y∈Bp so (marksTs ts)) \/
 (so = "cents"/\∃ zs:List Int,H x=some (.lst (List.map V.int zs))/\zs.Pairwise (· < ·)/\∀ y,y∈zs↔V.int y∈Bp so (marksTs ts)) \/
 (so = "day"/\∃ zs:List Int,H x=some (.lst (List.map V.int zs))/\zs.Pairwise (· < ·)/\∀ y,y∈zs↔(V.int y∈Bp so (marksTs ts)/\1<=y/\y<=1000000))
theorem MkS.mono {ts:List Dx} {so:Str} {x:Addr} {H H':Hp} (h:MkS ts so x H) (s:∀ o,H x=some o->H' x=some o):MkS ts so x H':=by
 rcases h with ⟨e,zs,h,r⟩ | ⟨e,zs,h,r⟩ | ⟨e,zs,h,r⟩
 ·exact .inl ⟨e,zs,s _ h,r⟩
 ·exact .inr (.inl ⟨e,zs,s _ h,r⟩)
 ·exact .inr (.inr ⟨e,zs,s _ h,r⟩)
theorem MkS.strs {ts:List Dx} {so:Str} {x:Addr} {H:Hp} (h:MkS ts so x H) (e:so = "cause" \/ so = "thing"):∃ zs:List Str,H x=some (.lst (List.map V.str zs))/\zs.Nodup/\PyProof.Rows.sortedS zs=true/\∀ y,y∈zs↔V.str y∈Bp so (marksTs ts):=by
 rcases h with ⟨_,h⟩ | ⟨e',_⟩ | ⟨e',_⟩
 ·exact h
 ·rcases e with e | e <;> exact absurd (e.symm.trans e') (by ac_nf)
 ·rcases e with e | e <;> exact absurd (e.symm.trans e') (by ac_nf)
theorem MkS.cents {ts:List Dx} {x:Addr} {H:Hp} (h:MkS ts "cents" x H):∃ zs:List Int,H x=some (.lst (List.map V.int zs))/\zs.Pairwise (· < ·)/\∀ y,y∈zs↔V.int y∈Bp "cents" (marksTs ts):=by
 rcases h with ⟨e,_⟩ | ⟨_,h⟩ | ⟨e,_⟩
 ·rcases e with e | e <;> exact absurd e (by ac_nf)
 ·exact h
 ·exact absurd e (by ac_nf)
theorem MkS.days {ts:List Dx} {x:Addr} {H:Hp} (h:MkS ts "day" x H):∃ zs:List Int,H x=some (.lst (List.map V.int zs))/\zs.Pairwise (· < ·)/\∀ y,y∈zs↔(V.int y∈Bp "day" (marksTs ts)/\1<=y/\y<=1000000):=by
 rcases h with ⟨e,_⟩ | ⟨e,_⟩ | ⟨_,h⟩
 ·rcases e with e | e <;> exact absurd e (by ac_nf)
 ·exact absurd e (by ac_nf)
 ·exact h
theorem CL {so:Str} (h:so∈wordsL):(so = "cause" \/ so = "thing")\/so = "cents" \/ so = "day" := by
 rcases zAq.mp h with h | h
 ·exact .inl (.inl h)
 rcases zAq.mp h with h | h
 ·exact .inl (.inr h)
 rcases zAq.mp h with h | h
 ·exact .inr (.inr h)
 ·exact .inr (.inl (zAk.mp h))
theorem Y2 {α:Type} {l:List α} (h:l.length=4):∃ a b c d,l=[a,b,c,d]:=by
 match l,h with
 | [a,b,c,d],_=>exact⟨a,b,c,d,rfl⟩
theorem W0 (ns:List Int) (lo hi:Option Int):∃ ms:List Int,Hd (ns.map V.int) lo hi=ms.map V.int/\ms.length<=ns.length:=by
 refine⟨(ns.drop (HT.sIx (ns.map V.int).length 0 lo)).take (HT.sIx (ns.map V.int).length (ns.map V.int).length hi-HT.sIx (ns.map V.int).length 0 lo),?_,?_⟩
 ·unfold Hd
  rw[List.map_take,List.map_drop]
 ·rw[zAB,zCm]
  lia
theorem Lo {K:zAb} {H:Hp} {cl:Addr} {xs:List V} {rs:List (List V)} (h:H cl=some (.lst xs)) (tp:Tps H xs rs) (f:∀ r∈rs,r.all Ci=true):Oj K H (.seq false (rs.map (Hx true))) (.ref cl):=by
 unfold Oj;exact⟨cl,xs,rfl,fun e=>zCo e,fun _=>SqL.of h,Xb tp f⟩
def Vn (A B:List Str) (D E:List Int):List (List V):=[A.map V.str,B.map V.str,D.map V.int,E.map V.int]
theorem Yp (A B:List Str) (D E:List Int):∀ r∈Vn A B D E,r.all Ci=true:=fun r h=>by
 rcases zAq.mp h with rfl | h
 ·exact Cy A
 rcases zAq.mp h with rfl | h
 ·exact Cy B
 rcases zAq.mp h with rfl | h
 ·exact Ep D
 ·rw[zAk.mp h]
  exact Ep E
theorem FF {K:zAb} {H:Hp} {m a b c d:Addr} {A B:List Str} {D' E:List Int} (h:H m=some (.lst [.ref a,.ref b,.ref c,.ref d])) (ha:H a=some (.lst (List.map V.str A))) (hb:H b=some (.lst (List.map V.str B))) (hc:H c=some (.lst (List.map V.int D'))) (hd:H d=some (.lst (List.map V.int E))):Oj K H (.seq false ((Vn A B D' E).map (Hx false))) (.ref m):=by
 unfold Oj;refine⟨m,_,rfl,fun e=>zCo e,fun _=>SqL.of h,?_⟩;show Reps K H [Hx false (A.map V.str),Hx false (B.map V.str),Hx false (D'.map V.int),Hx false (E.map V.int)] _;unfold Reps;refine⟨_,_,rfl,Pc ha (Cy A),?_⟩;unfold Reps;refine⟨_,_,rfl,Pc hb (Cy B),?_⟩;unfold Reps;refine⟨_,_,rfl,Pc hc (Ep D'),?_⟩;unfold Reps;refine⟨_,_,rfl,Pc hd (Ep E),?_⟩;unfold Reps;rfl
def B8 (K:zAb):Sp:=fun vs H Q _=>∃ (a:Addr) (ns:List Int),vs=[.ref a]/\SqL K H a (ns.map V.int)/\ns.length<=63/\∀ H',Q (.bl true) H'
section
variable {P:Program} {w:World} {K:zAb} {mg:Str->Option Value} {base:Heap} {Ad Ai Ah Ak Aq Ax Aw Ap Bj Al Az:Addr}
theorem DL:Bb ["_law_script", "_law_unit_here", "_law_drawn", "_law_things", "_law_causes", "_law_names_here", "_law_conds", "_law_book", "_law_marks_here", "_law_bound_here", "_law_told", "_law_cells", "_law_stretches", "_law_some", "_law_kept", "_law_cell_here", "_law_row", "_law_again"] ["_law_script"] (An Pj):=by injections
theorem DE {f:Addr} {fd:zCt} (F:Fun K "law" "law" Pj f fd) (T:Txt K mg) (L:Kl K mg Ad Ai Ah Ak Aq Ax Aw Ap Bj Al Az) (C_law_cell:Ct P w K mg base 1 "_law_cell" ["_law_script", "_law_k"] (Nj K)) (C_law_spread:Ct P w K mg base 1 "_law_spread" ["_law_cell_here"] La) (C_law_unit:Ct P w K mg base 2 "_law_unit" ["_law_script"] (Yz K)) (C_law_names:Ct P w K mg base 1 "_law_names" ["_law_cell_here", "_law_many"] Tg)
  (C_law_cond:Ct P w K mg base 2 "_law_cond" ["_law_cell_here", "_law_things", "_law_causes", "_law_unit_here"] Yw) (C_law_condition:Ct P w K mg base 5 "_law_condition" ["_law_cond_here"] (B6 (A8.mk Ad Ai Ah Ak Aq Ax Aw Ap) 3)) (KCover:Gr P w K mg base 6 "Cover" Al ["self", "name", "condition", "clauses", "houses", "waits"] (Xt Al)) (KBook:Gr P w K mg base 1 "Book" Az ["self", "covers"] (Zn Al Az))
  (C_law_named:Ct P w K mg base 5 "_law_named" ["_law_conds", "_law_word"] (Up K)) (C_law_bound:Ct P w K mg base 2 "_law_bound" ["_law_script", "_law_amounts", "_law_unit_here"] (EF K)) (Cmarks_of:Ct P w K mg base 9 "marks_of" ["book"] (Fv (A8.mk Ad Ai Ah Ak Aq Ax Aw Ap) Al Az)) (C_law_told_marks:Ct P w K mg base 3 "_law_told_marks" ["_law_told", "_law_marks_here"] Yi)
  (Ccells_of:Ct P w K mg base 10 "cells_of" ["book"] (Ua (A8.mk Ad Ai Ah Ak Aq Ax Aw Ap) Al Az)) (Cstretches_of:Ct P w K mg base 10 "stretches_of" ["book", "bound"] (R4 (A8.mk Ad Ai Ah Ak Aq Ax Aw Ap) Al Az)) (C_law_cells_right:Ct P w K mg base 3 "_law_cells_right" ["_law_cells", "_law_marks_here"] P7) (C_law_stretches_right:Ct P w K mg base 2 "_law_stretches_right" ["_law_found", "_law_bound_here", "_law_amounts"] DG)
  (Canother:Ct P w K mg base 2 "another" ["names"] Hg) (C_law_other:Ct P w K mg base 1 "_law_other" ["_law_names_here"] Pb) (C_law_loss_right:Ct P w K mg base 11 "_law_loss_right" ["_law_book", "_law_cell_here", "_law_cents", "_law_marks_here"] (CF (A8.mk Ad Ai Ah Ak Aq Ax Aw Ap) Al Az)) (C_law_once:Ct P w K mg base 1 "_law_once" ["_law_cells", "_law_marks_here", "_law_drawn", "_law_things", "_law_causes"] Yu):FnOk P w K mg base Dv 12 f fd ["_law_script"] (B8 K):=by
 have sc:=DL;bv_omega
 ·obtain⟨_,_,rfl,_⟩:=h
  rfl
 have hu64:=Ow hr;have hu:=Xo hr;obtain⟨a,ns,rfl,ha,h63,q⟩:=h;refine⟨_,(Ae (Ba (i:=1) sc.nd rfl (Or.inr rfl) (Am C_law_unit (hr.mono (by decide)) rfl (Aa (pv 0) Af)))
   (Ae (Ba (i:=2) sc.nd rfl (Or.inl rfl) (Am C_law_spread (hr.mono (by decide)) rfl (Aa (Am C_law_cell (hr.mono (by decide)) rfl (Aa (pv 0) (Aa Ac Af))) Af)))
   (Ae (Ba (i:=3) sc.nd rfl (Or.inr rfl) (Am C_law_names (hr.mono (by decide)) rfl (Aa (Ao By (pv 2) Ac) (Aa Ac Af))))
   (Ae (Ba (i:=4) sc.nd rfl (Or.inr rfl) (Am C_law_names (hr.mono (by decide)) rfl (Aa (Ao By (pv 2) Ac) (Aa Ac Af))))
   (Ae (Ba (i:=5) sc.nd rfl (Or.inr rfl) (Hf Oz (Am C_law_names (hr.mono (by decide)) rfl (Aa (Ao By (pv 2) Ac) (Aa Ac Af))) Lz (Hv (Ao Br (Ao By (Am C_law_spread (hr.mono (by decide)) rfl (Aa (Am C_law_cell (hr.mono (by decide)) rfl (Aa (pv 0) (Aa Ac Af))) Af)) Ac) Ac))))
   (Ae (Ba (i:=6) sc.nd rfl (Or.inr rfl) (Da (NC:=["_law_c", "_law_things", "_law_causes", "_law_unit_here", "_law_script"]) (own:=["_law_c"]) (cs:=["_law_things", "_law_causes", "_law_unit_here", "_law_script"]) (ix:=[3,4,1,0]) rfl (CompScope.of rfl) rfl ⟨⟨rfl,.inl rfl,rfl⟩,⟨⟨rfl,.inl rfl,rfl⟩,⟨⟨rfl,.inl rfl,rfl⟩,⟨⟨rfl,.inl rfl,rfl⟩,trivial⟩⟩⟩⟩ (Di rfl T.n_range (Aa (Bg Bk rfl T.n_len (show zCs _=some (.builtin "len") from rfl) (Aa (pv 5) Af)) Af)) (fun _ _ _=>(Bh (i:=0) (show (["_law_c", "_law_things", "_law_causes", "_law_unit_here", "_law_script"]:List Str).Nodup from by ac_nf) rfl (Or.inl rfl))) (fun _ _ _=>Cr) (fun _ _ _=>(Am C_law_cond (hr.mono (by decide)) rfl (Aa (Am C_law_spread (hr.mono (by decide)) rfl (Aa (Am C_law_cell (hr.mono (by decide)) rfl (Aa (pv 4) (Aa (Ao Ca Ac (pv 0)) Af))) Af)) (Aa (pv 1) (Aa (pv 2) (Aa (pv 3) Af))))))))
   (Ae (Ba (i:=7) sc.nd rfl (Or.inl rfl) (Eb KBook (hr.mono (by decide)) rfl (Aa (Da (NC:=["_law_c", "_law_names_here", "_law_conds"]) (own:=["_law_c"]) (cs:=["_law_names_here", "_law_conds"]) (ix:=[5,6]) rfl (CompScope.of rfl) rfl ⟨⟨rfl,.inl rfl,rfl⟩,⟨⟨rfl,.inl rfl,rfl⟩,trivial⟩⟩ (Di rfl T.n_range (Aa (Bg Bk rfl T.n_len (show zCs _=some (.builtin "len") from rfl) (Aa (pv 5) Af)) Af)) (fun _ _ _=>(Bh (i:=0) (show (["_law_c", "_law_names_here", "_law_conds"]:List Str).Nodup from by ac_nf) rfl (Or.inl rfl))) (fun _ _ _=>Cr) (fun _ _ _=>(Eb KCover (hr.mono (by decide)) rfl (Aa (Av (Jb (K:=K) rfl) (pv 1) (pv 0) (fun _ _=>rfl)) (Aa (Am C_law_condition (hr.mono (by decide)) rfl (Aa (Av (Jb (K:=K) rfl) (pv 2) (pv 0) (fun _ _=>rfl)) Af)) (Aa Tp (Aa Tp (Aa (Dg Db (Ao Br (pv 0) Ac) Ac (Bd _)) Af)))))))) Af)))
   (Ae (Fp (NC:=["_law_word", "_law_conds"]) (own:=["_law_word"]) (cs:=["_law_conds"]) (ix:=[6]) (j:=8) sc.nd rfl rfl rfl (CompScope.of rfl) rfl ⟨⟨rfl,.inl rfl,rfl⟩,trivial⟩ (Bn (Bq (Aa Bi (Aa Bi (Aa Bi (Aa Bi Af)))))) (fun _ _ _=>(Bh (i:=0) (show (["_law_word", "_law_conds"]:List Str).Nodup from by ac_nf) rfl (Or.inl rfl))) (fun _ _ _=>Cr) (fun _ _ _=>(Am C_law_named (hr.mono (by decide)) rfl (Aa (pv 1) (Aa (pv 0) Af)))))
   (Ae (Ba (i:=9) sc.nd rfl (Or.inl rfl) (Am C_law_bound (hr.mono (by decide)) rfl (Aa (pv 0) (Aa (Av Bu (pv 8) Ac (fun _ _=>rfl)) (Aa (pv 1) Af)))))
   (Ae (Ba (i:=10) sc.nd rfl (Or.inl rfl) (Am Cmarks_of (hr.mono (by decide)) rfl (Aa (pv 7) Af)))
   (Ae (Bm (Bz (Bx (Am C_law_told_marks (hr.mono (by decide)) rfl (Aa (pv 10) (Aa (pv 8) Af)))))
    (Aj (Au Cp))
    Bc)
   (Ae (Fu (Oe PySem.F.plainAttrs_list PySem.F.slot_list_append PySem.F.type_list_append Fx (Av Be (pv 10) Ac (fun _ _=>rfl)) (Aa Bi Af)))
   (Ae (Ba (i:=11) sc.nd rfl (Or.inl rfl) (Am Ccells_of (hr.mono (by decide)) rfl (Aa (pv 7) Af)))
   (Ae (Ba (i:=12) sc.nd rfl (Or.inl rfl) (Am Cstretches_of (hr.mono (by decide)) rfl (Aa (pv 7) (Aa (pv 9) Af))))
   (Ae (Bm (PW.pt (Dk (Bz (Bx (Am C_law_cells_right (hr.mono (by decide)) rfl (Aa (pv 11) (Aa (pv 8) Af))))) (Dn (Bz (Bx (Am C_law_stretches_right (hr.mono (by decide)) rfl (Aa (pv 12) (Aa (pv 9) (Aa (Av Bu (pv 8) Ac (fun _ _=>rfl)) Af)))))))))
    (Aj (Au Cp))
    Bc)
   (Ae (Ba (i:=13) sc.nd rfl (Or.inl rfl) (Ao Dz (Ao Dz (Hf Oz (Da (NC:=["_law_letter"]) (own:=["_law_letter"]) (cs:=[]) (ix:=[]) rfl (CompScope.of rfl) rfl trivial (S1 Bi) (fun _ _ _=>(Bh (i:=0) (show (["_law_letter"]:List Str).Nodup from by ac_nf) rfl (Or.inl rfl))) (fun _ _ _=>Cr) (fun _ _ _=>(pv 0))) Lz (Hv (Ao Br (Am C_law_cell (hr.mono (by decide)) rfl (Aa (pv 0) (Aa Ac Af))) Ac))) (pv 4)) (Bq (Aa Bi (Aa Bi Af)))))
   (Ae (Ba (i:=14) sc.nd rfl (Or.inl rfl) (Ds Dc rfl T.n_list (show zCs _=some (.type "list") from rfl) (Aa (pv 13) Af)))
   (Ae (Bm (PW.pt (Dk (Ay Lq (Am Canother (hr.mono (by decide)) rfl (Aa (pv 13) Af)) (Am C_law_other (hr.mono (by decide)) rfl (Aa (pv 13) Af)) (Bd _)) (Dk (Ay (N4 hu) (pv 13) (pv 14) (Bd _)) (Dn (Ay Lq (Am Canother (hr.mono (by decide)) rfl (Aa (Bq Af) Af)) Bi (Bd _))))))
    (Aj (Au Cp))
    Bc)
   (Ae (Dd PassesOwn.never rfl (Bn (Ao Dz (Bq (Aa Ac Af)) (Hf Oz (pv 0) (Hv Ac) (Hv Ac)))) (Bh (i:=15) sc.nd rfl (Or.inl rfl))
    (Ae (Ba (i:=16) sc.nd rfl (Or.inl rfl) (Av Bu (pv 11) (Ao Br (pv 15) (Bg Bk rfl T.n_len (show zCs _=some (.builtin "len") from rfl) (Aa (pv 11) Af))) (fun _ _=>rfl)))
   (Ae (Bm (Bz (Bx (Am C_law_loss_right (hr.mono (by decide)) rfl (Aa (pv 7) (Aa (pv 16) (Aa (Ao Ca Ac (Ao Br (pv 15) (pv 9))) (Aa (pv 8) Af)))))))
    (Aj (Au Cp))
    Bc)
   (Aj (Bm (Bz (Bx (Am C_law_once (hr.mono (by decide)) rfl (Aa (pv 11) (Aa (pv 8) (Aa (Am C_law_spread (hr.mono (by decide)) rfl (Aa (pv 15) Af)) (Aa (pv 3) (Aa (pv 4) Af))))))))
    (Aj (Au Cp))
    Bc)))))
   (Ae (Ba (i:=17) sc.nd rfl (Or.inl rfl) (Ds Dc rfl T.n_list (show zCs _=some (.type "list") from rfl) (Aa (pv 11) Af)))
   (Ae (Fu (Oe PySem.F.plainAttrs_list PySem.F.slot_list_append PySem.F.type_list_append Fx (pv 11) (Aa Ac Af)))
   (Aj (Au (Mt (Dg (Ra (K:=K) hu64) (Am Ccells_of (hr.mono (by decide)) rfl (Aa (pv 7) Af)) (pv 17) (Bd _)) (Mt (Dg (Ra (K:=K) hu64) (Ds Dc rfl T.n_list (show zCs _=some (.type "list") from rfl) (Aa (Am Cmarks_of (hr.mono (by decide)) rfl (Aa (pv 7) Af)) Af)) (pv 8) (Bd _)) (Me (Dg (Ra (K:=K) hu64) (Am Cstretches_of (hr.mono (by decide)) rfl (Aa (pv 7) (Aa (pv 9) Af))) (pv 12) (Bd _)))))))))))))))))))))))))))),?_⟩
 have sl:=zCr;have one:1<=sizeLine:=by lia
 refine Oo fun N eN=>?_;refine (vE rfl ⟨a,ns,rfl,ha,h63,fun u H1 s1 uo=>?_⟩);have ha1:=s1.seq ha;refine Jk eN [some (.ref a),some (.int u),none,none,none,none,none,none,none,none,none,none,none,none,none,none,none,none] rfl fun N eN=>?_;refine (vE rfl ⟨a,ns,1,rfl,ha1,by decide,h63,⟨_,rfl,fun dr d0 d1=>?_⟩⟩);refine Jk eN [some (.ref a),some (.int u),some (.int dr),none,none,none,none,none,none,none,none,none,none,none,none,none,none,none] rfl fun N eN=>?_;refine (vE rfl (vF rfl rfl ⟨⟨by decide,by decide⟩,⟨_,3,rfl,by lia,by decide,by decide,fun th TH H2 s2 nth hth NT lT=>?_⟩⟩));refine Jk eN [some (.ref a),some (.int u),some (.int dr),some (.ref th),none,none,none,none,none,none,none,none,none,none,none,none,none,none] rfl fun N eN=>?_;refine (vE rfl (vF rfl rfl ⟨⟨by decide,by decide⟩,⟨_,3,rfl,by lia,by decide,by decide,fun ca CA H3 s3 nca hca NC lC=>?_⟩⟩));refine Jk eN [some (.ref a),some (.int u),some (.int dr),some (.ref th),some (.ref ca),none,none,none,none,none,none,none,none,none,none,none,none,none] rfl fun N eN=>?_;refine (vE rfl (vF rfl rfl ⟨⟨by decide,by decide⟩,⟨_,4,rfl,by lia,by decide,by decide,fun nm NM H4 s4 nnm hnm NN lN=>?_⟩⟩));have ha4:=(s2.trans (s3.trans s4)).seq ha1;refine (vE rfl ⟨a,ns,0,rfl,ha4,by decide,h63,⟨_,rfl,fun e0 e00 e01=>vF rfl rfl ⟨⟨by decide,by decide⟩,vF rfl rfl ⟨(by show (0:Int)<5; decide),vE rfl ⟨nm,_,rfl,SqL.of hnm,fun n5 nn5=>?_⟩⟩⟩⟩⟩);obtain⟨k,hk⟩:=Int.eq_ofNat_of_zero_le (show 0<=e0/5%5 by lia);have k4:k<=4:=by lia
 have s5:=Ag nn5 (.lst (Hd (NM.map V.str) none (some (e0/5%5))));have e5:upd H4 n5 (.lst (Hd (NM.map V.str) none (some (e0/5%5)))) n5=some (.lst ((NM.take k).map V.str)):=by rw[Ab,hk,Vf,List.map_take]
 refine Jk eN [some (.ref a),some (.int u),some (.int dr),some (.ref th),some (.ref ca),some (.ref n5),none,none,none,none,none,none,none,none,none,none,none,none] rfl fun N eN=>?_;generalize upd H4 n5 (.lst (Hd (NM.map V.str) none (some (e0/5%5))))=H5 at s5 e5;have ha5:=s5.seq ha4;have hth5:=s5 _ _ (s4 _ _ (s3 _ _ hth));have hca5:=s5 _ _ (s4 _ _ hca);have okn:∀ z∈NM.take k,Lp (.str z)=true/\z.length<=8/\z ≠ "self" := fun z hz=>NN.ok z (List.mem_of_mem_take hz);have ndn:(NM.take k).Nodup:=NN.nd.sublist (List.take_sublist _ _);have lks:(NM.take k).length<=4:=by rw[zAB]; lia
 have lT3:TH.length=3:=by lia
 have lC3:CA.length=3:=by lia
 have nT:∀ z∈TH,Rv z:=fun z hz=>AZ (NT.ok z hz).1;have nC:∀ z∈CA,Rv z:=fun z hz=>AZ (NC.ok z hz).1;clear hnm NN nnm nn5 hk s5 s4 s3 s2 s1 ha1 ha4 hth hca nca nth NT NC ha;generalize NM.take k=ks at e5 okn ndn lks;have lm:(ks.map V.str).length=ks.length:=zAa _;refine (vE rfl ⟨n5,_,rfl,.inl (SqL.of e5),_,rfl,by lia,by lia,fun r nr=>?_⟩);refine Eo (lo:=0) (n:=(ks.map V.str).length) (fun i ys H6=>(∃ ts:List Dx,ts.length=i/\TrsAt (hid H6 r) ys ts/\∀ t∈ts,Mb t<3/\Ma Os t/\W8 t)/\H6 r=some (.lst ys)/\Same H5 H6) ⟨⟨[],rfl,by unfold TrsAt; trivial,fun _ h=>(nomatch h)⟩,Ab,Ag nr _⟩
  (fun i ys H6 _ ⟨⟨ts,l,tr,_⟩,h1,_⟩=>⟨h1,by rw[Lx tr,l]; exact zAg _⟩) (by rw[lm]; lia) (fun i ys H6 hi ⟨⟨ts,l,tr,al⟩,h6,s6⟩=>?_) (fun cys H6 ⟨⟨ts,lts,trs,al⟩,h6,s6⟩=>?_)
 ·refine (vE rfl (vE rfl (vF rfl rfl ⟨a,ns,_,rfl,s6.seq ha5,by lia,h63,⟨_,rfl,fun w w0 w1=>vE rfl (vE rfl (vE rfl ⟨w,u,th,ca,TH,CA,rfl,w0,uo,s6 _ _ hth5,s6 _ _ hca5,lT3,lC3,nT,nC,fun v t H7 s7 tr7 hg ok sh=>?_⟩))⟩⟩)))
  refine⟨s7 _ _ h6,rfl,⟨ts++[t],by rw[zAe,l]; rfl,TrsAt.snoc (TrsAt.same (Xe fun b o n e=>by rw[Ar n]; exact s7 _ _ e) _ tr) (TrAt.same (Q7 h6 fun b o n e=>by rw[Ar n]; exact e) _ tr7),fun x hx=>?_⟩,Ab,Bv nr (s6.trans s7)⟩;rcases zAW.mp hx with h | h
  ·exact al x h
  ·rw[zAk.mp h]
   exact⟨hg,ok,sh⟩
 rw[lm] at lts;refine Jk eN [some (.ref a),some (.int u),some (.int dr),some (.ref th),some (.ref ca),some (.ref n5),some (.ref r),none,none,none,none,none,none,none,none,none,none,none] rfl fun N eN=>?_;have trs6:TrsAt H6 cys ts:=TrsAt.same (Vx H6 r) _ trs;have e6:=s6 _ _ e5;have ha6:=s6.seq ha5;have hth6:=s6 _ _ hth5;have hca6:=s6 _ _ hca5;have l4:ts.length<=4:=by lia
 have lcy:=Lx trs;have shs:∀ t∈ts,W8 t:=fun t ht=>(al t ht).2.2;have m60:(marksTs ts).length<=60:=by have:=L3 shs; lia
 clear trs s6 e5 ha5 hth5 hca5 nr;refine (vE rfl ⟨n5,_,rfl,.inl (SqL.of e6),_,rfl,by lia,by lia,fun r2 nr2=>?_⟩);refine Eo (lo:=0) (n:=(ks.map V.str).length) (fun i ys H7=>(∃ cs:List Cw,ys=cs.map EI/\cs.map (·.nm)=ks.take i/\cs.map (·.t)=ts.take i/\∀ x∈cs,CwAt (A8.mk Ad Ai Ah Ak Aq Ax Aw Ap) Al (hid H7 r2) x)/\H7 r2=some (.lst ys)/\Same H6 H7) ⟨⟨[],rfl,rfl,rfl,fun _ h=>(nomatch h)⟩,Ab,Ag nr2 _⟩
  (fun i ys H7 hi ⟨⟨cs,e,n,_,_⟩,h1,_⟩=>⟨h1,by rw[e,zAa,<- zAa (f:=fun c:Cw=>c.nm),n,zAB]; lia⟩) (by rw[lm]; lia) (fun i ys H7 hi ⟨⟨cs,e,n1,n2,al7⟩,h7,s7⟩=>?_) (fun ys H7 ⟨⟨cs,e,n1,n2,al7⟩,h7,s7⟩=>?_)
 ·rw[lm] at hi
  have en:ks[i]?=some ks[i]:=zAf hi;have et:ts[i]?=some ts[i]:=zAf (by lia);have ev:cys[i]?=some cys[i]:=zAf (by lia);generalize ks[i]=z at en;generalize ts[i]=t at et;generalize cys[i]=v at ev;obtain⟨t',et',tr'⟩:=Oy trs6 ev;rw[et] at et';cases et';obtain⟨hg,ok,sh⟩:=al t (zAu et);have a1:Nt (ks.map V.str) (0+(i:Int))=some (.str z):=by
   rw[show (0+(i:Int))=(i:Int) by lia];exact Fq (by rw[zAl,en]; rfl)
  have a2:Nt cys (0+(i:Int))=some v:=by
   rw[show (0+(i:Int))=(i:Int) by lia];exact Fq ev
  refine (vE rfl (vE rfl (vI rfl rfl (SqL.of (s7 _ _ e6)) a1 (vE rfl (vE rfl (vI rfl rfl (SqL.of (s7 _ _ h6)) a2 ⟨v,t,rfl,TrAt.same s7 _ tr',hg,ok,fun cu H8 s8 cd=>?_⟩))))));refine (vE rfl (vF rfl rfl ⟨(by show (0:Int)<2; decide),rfl,fun p dp np ndp nep=>?_⟩));refine⟨p,dp,z,cu,_,rfl,Ab,okn z (zAu en),fun H9 cl d0' fs kb hp f1 f2 f3 f4 f5 hcl ncl=>⟨rfl,?_⟩⟩;have s9:Same H8 H9:=Jp np ndp kb;have h8:=s8 _ _ h7;have h9:=s9 _ _ h8;have pcv:p≠r2:=fun e=>by rw[e,h8] at np; cases np
  have ccv:cl≠r2:=fun e'=>by
   have zz:upd (upd H8 dp (.own p)) p (.ins Al dp []) r2=some (.lst ys):=by rw[Ar (Ne.symm pcv),Ar (At h8 ndp)]; exact h8
   rw[e',zz] at ncl;cases ncl
  refine⟨h9,rfl,⟨cs++[⟨p,z,t,decide (V.int ((0+(i:Int))%2)=V.int 1)⟩],by rw[zAn,e]; rfl,by rw[zAn,n1,Cd en]; rfl,by rw[zAn,n2,Cd et]; rfl,fun x hx=>?_⟩,Ab,Bv nr2 (s7.trans (s8.trans s9))⟩;rcases zAW.mp hx with h | h
  ·refine (al7 x h).same (Xe fun b o n e=>?_)
   rw[Ar n];exact s9 _ _ (s8 _ _ e)
  ·rw[zAk.mp h]
   refine⟨d0',fs,cu,cl,?_,f1,f2,f3,f4,f5,CdAt.same (Q7 h7 fun b o n e=>by rw[Ar n]; exact s9 _ _ e) _ cd,zAU hg,?_⟩
   ·show hid _ r2 p=_
    rw[Kg pcv,Ar pcv];exact hp
   ·rw[Kg ccv,Ar ccv]
    exact hcl
 rw[lm,zAz] at n1;rw[lm,<- lts,zAz] at n2;subst e;have lcs:cs.length<=4:=by rw[<- zAa (f:=fun c:Cw=>c.nm),n1]; exact lks
 have all7:∀ x∈cs,CwAt (A8.mk Ad Ai Ah Ak Aq Ax Aw Ap) Al H7 x:=fun x hx=>(al7 x hx).same (Vx H7 r2);have eB:mB cs=marksTs ts:=by rw[EQ,n2]
 refine fun bk db nbk ndb neb=>?_;have s8:Same H7 (upd (upd H7 db (.own bk)) bk (.ins Az db [])):=Jp (C:=Az) nbk ndb fun b o e _=>e;refine⟨bk,db,r2,cs.map X6,rfl,Ab,by rw[s8 _ _ h7,BI],(BW all7).same s8,by rw[zAa]; lia,by rw[List.map_map]; show (cs.map (·.nm)).Nodup; rw[n1]; exact ndn,fun bcl bak H9 kb bka nbc nba=>⟨rfl,?_⟩⟩;have s9:Same H7 H9:=Jp nbk ndb kb;have bw:BwAt (A8.mk Ad Ai Ah Ak Aq Ax Aw Ap) Al Az H9 bk cs:=by
  obtain⟨⟨dx,fs,b1,b2,b3,_⟩,hc,hak⟩:=bka;exact⟨dx,fs,bcl,bak,b1,b2,b3,by rw[hc,BI],by rw[hak,DZ],fun x hx=>(all7 x hx).same s9⟩
 refine Jk eN [some (.ref a),some (.int u),some (.int dr),some (.ref th),some (.ref ca),some (.ref n5),some (.ref r),some (.ref bk),none,none,none,none,none,none,none,none,none,none] rfl fun N eN=>?_;have S9:=s7.trans s9;have ha9:=S9.seq ha6;have hth9:=S9 _ _ hth6;have hca9:=S9 _ _ hca6;have h69:=S9 _ _ h6;have trs9:=TrsAt.same S9 _ trs6;have wd:=AC eB shs l4;have m60':(mB cs).length<=60:=by rw[eB]; exact m60
 clear s7 s8 s9 S9 bka kb all7 al7 h7 nr2 nbk ndb neb nbc nba ha6 hth6 hca6 h6 trs6 e6 n1;have lw:wordsL.length=4:=rfl;refine⟨Ce (by show 4<=1000; decide),fun w4 nw4=>?_⟩;have s10:=Ag nw4 (.lst [V.str "cause",.str "thing",.str "day",.str "cents"]);have h10:upd H9 w4 (.lst [V.str "cause",.str "thing",.str "day",.str "cents"]) w4=some (.lst [V.str "cause",.str "thing",.str "day",.str "cents"]):=Ab;generalize upd H9 w4 (.lst [V.str "cause",.str "thing",.str "day",.str "cents"])=H10 at s10 h10;have h10:H10 w4=some (.lst (wordsL.map V.str)):=h10;refine⟨w4,rfl,⟨_,SqL.of h10⟩,fun r3 nr3=>?_⟩;have h610:=s10 _ _ h69;have trs10:=TrsAt.same s10 _ trs9;refine Cc (K:=K) (a:=w4) (xs:=wordsL.map V.str) (fun i ys H11=>(∃ as:List Addr,ys=as.map V.ref/\as.length=i/\∀ (j:Nat) x so,as[j]?=some x->wordsL[j]?=some so->MkS ts so x (hid H11 r3))/\H11 r3=some (.lst ys)/\Same H10 H11) ⟨⟨[],rfl,rfl,fun j x so e=>by simp at e⟩,Ab,Ag nr3 _⟩
  (fun i ys H11 _ ⟨⟨as,e,l,_⟩,h1,s11⟩=>⟨h1,by rw[e,zAa,l]; exact zAg _,SqL.of (s11 _ _ h10)⟩) (by rw[zAa,lw]; lia) (fun i v ys H11 hi ⟨⟨as,e,l,al2⟩,h11,s11⟩=>?_) (fun ys H11 ⟨⟨as,e,l,al2⟩,h11,s11⟩=>?_)
 ·rw[zAl] at hi
  obtain⟨so,hso,rfl⟩:=zAy.mp hi;have put:∀ x H12,Same H11 H12->H11 x=none->MkS ts so x H12->H12 r3=some (.lst ys)/\(some (V.str so)::Dq [6] [some (.ref a),some (.int u),some (.int dr),some (.ref th),some (.ref ca),some (.ref n5),some (.ref r),some (.ref bk),none,none,none,none,none,none,none,none,none,none]=some (V.str so)::Dq [6] [some (.ref a),some (.int u),some (.int dr),some (.ref th),some (.ref ca),some (.ref n5),some (.ref r),some (.ref bk),none,none,none,none,none,none,none,none,none,none])/\(∃ as:List Addr,ys++[V.ref x]=as.map V.ref/\as.length=i+1/\∀ (j:Nat) x' so',as[j]?=some x'->wordsL[j]?=some so'->MkS ts so' x' (hid (upd H12 r3 (.lst (ys++[V.ref x]))) r3))/\upd H12 r3 (.lst (ys++[V.ref x])) r3=some (.lst (ys++[V.ref x]))/\Same H10 (upd H12 r3 (.lst (ys++[V.ref x]))):=fun x H12 s12 nx mk=>by
   have xr:x≠r3:=fun z=>by rw[z,h11] at nx; cases nx
   refine⟨s12 _ _ h11,rfl,⟨as++[x],by rw[e,zAn]; rfl,by rw[zAe,l]; rfl,fun j x' so' hj hw=>?_⟩,Ab,Bv nr3 (s11.trans s12)⟩;rcases zBJ j as.length with c | c
   ·rw[zBa c] at hj
    refine (al2 j x' so' hj hw).mono fun o ho=>?_;obtain⟨n,ho⟩:=Kf ho;rw[Kg n,Ar n];exact s12 _ _ ho
   ·have ej:j=as.length:=by
     have:=(zAp.mp hj).1;rw[zAe] at this;have:j<as.length+1:=this
     lia
    rw[zAQ c,ej,Nat.sub_self] at hj;have ex:x=x':=by simpa using hj
    rw[ej,l,hso] at hw;cases hw;subst ex;refine mk.mono fun o ho=>?_;rw[Kg xr,Ar xr];exact ho
  refine (vE rfl (vE rfl ⟨r,cys,ts,so,rfl,s11 _ _ h610,TrsAt.same s11 _ trs10,fun t ht=>(al t ht).1,m60,?_⟩));rcases CL (zAu hso) with h | h | h
  ·exact .inl ⟨h,fun x zs H12 s12 nx hx nd sr mem=>put x H12 s12 nx (.inl ⟨h,zs,hx,nd,sr,mem⟩)⟩
  ·exact .inr (.inl ⟨h,fun x zs H12 s12 nx hx pw mem=>put x H12 s12 nx (.inr (.inl ⟨h,zs,hx,pw,mem⟩))⟩)
  ·exact .inr (.inr ⟨h,fun x zs H12 s12 nx hx pw mem=>put x H12 s12 nx (.inr (.inr ⟨h,zs,hx,pw,mem⟩))⟩)
 rw[zAa,lw] at l;obtain⟨ma,mb,mc,md,rfl⟩:=Y2 l;subst e;obtain⟨A',hma,nA,sA,mA⟩:=(al2 0 ma "cause" rfl rfl).strs (.inl rfl);obtain⟨B',hmb,nB,sB,mB'⟩:=(al2 1 mb "thing" rfl rfl).strs (.inr rfl);obtain⟨D',hmc,pD,mD⟩:=(al2 2 mc "day" rfl rfl).days;obtain⟨E',hmd,pE,mE⟩:=(al2 3 md "cents" rfl rfl).cents;have hma:=(Kf hma).2;have hmb:=(Kf hmb).2;have hmc:=(Kf hmc).2;have hmd:=(Kf hmd).2;rw[<- eB] at mA mB' mD mE;have M4:Mks4 cs A' B' D' E':=⟨nA,sA,mA,nB,sB,mB',pD,mD,pE,mE⟩;have lA:=Ob m60' nA mA;have lB:=Ob m60' nB mB';have lD:=V1 m60' pD mD;have lE:=BL m60' pE mE;have od:DD D':=⟨pD,fun y hy=>((mD y).mp hy).2⟩;obtain⟨_,_,_,_,_,_,_,_,_,nemA,nemB,_⟩:=Tw shs;have neA:("" : Str)∉A':=fun h=>(nemA _ (by rw[<- eB]; exact (mA _).mp h)).2 rfl;have neB:("" : Str)∉B':=fun h=>(nemB _ (by rw[<- eB]; exact (mB' _).mp h)).2 rfl;have S11:=s10.trans s11;have ha11:=S11.seq ha9;have hth11:=S11 _ _ hth9;have hca11:=S11 _ _ hca9;have bw11:=bw.same S11;clear al2 s10 s11 S11 h610 trs10 trs9 h69 h10 nr3 nw4 bw ha9 hth9 hca9 nemA nemB;refine Jk eN [some (.ref a),some (.int u),some (.int dr),some (.ref th),some (.ref ca),some (.ref n5),some (.ref r),some (.ref bk),some (.ref r3),none,none,none,none,none,none,none,none,none] rfl fun N eN=>?_;refine (vE rfl (vE rfl (vI rfl rfl (SqL.of h11) rfl (vE rfl ⟨a,md,ns,u,E',rfl,ha11,h63,uo,hmd,fun bd H12 s12 b1=>?_⟩))));refine Jk eN [some (.ref a),some (.int u),some (.int dr),some (.ref th),some (.ref ca),some (.ref n5),some (.ref r),some (.ref bk),some (.ref r3),some (.int bd),none,none,none,none,none,none,none,none] rfl fun N eN=>?_
 have ha12:=s12.seq ha11;have hth12:=s12 _ _ hth11;have hca12:=s12 _ _ hca11;have bw12:=bw11.same s12;have h12:=s12 _ _ h11;have hma12:=s12 _ _ hma;have hmb12:=s12 _ _ hmb;have hmc12:=s12 _ _ hmc;have hmd12:=s12 _ _ hmd;clear s12 ha11 hth11 hca11 bw11 h11 hma hmb hmc hmd;refine (vE rfl ⟨bk,cs,rfl,bw12,m60',fun tk ta tb tc td A2 B2 D2 E2 H13 s13 htk hta htb htc htd nA2 sA2 mA2 nB2 sB2 mB2 pD2 mD2 pE2 mE2 nta=>?_⟩);obtain⟨rfl,rfl,rfl,rfl⟩:=M4.uniq ⟨nA2,sA2,mA2,nB2,sB2,mB2,pD2,mD2,pE2,mE2⟩;refine Jk eN [some (.ref a),some (.int u),some (.int dr),some (.ref th),some (.ref ca),some (.ref n5),some (.ref r),some (.ref bk),some (.ref r3),some (.int bd),some (.ref tk),none,none,none,none,none,none,none] rfl fun N eN=>?_;refine (vE rfl (vE rfl ⟨tk,r3,ta,tb,tc,td,ma,mb,mc,md,rfl,htk,s13 _ _ h12,.inl ⟨rfl,A',hta,s13 _ _ hma12,lA⟩,.inl ⟨rfl,B',htb,s13 _ _ hmb12,lB⟩,.inr ⟨rfl,D',htc,s13 _ _ hmc12,lD⟩,.inr ⟨rfl,E',htd,s13 _ _ hmd12,lE⟩,fun H14 s14=>vE rfl (Cg ?_)⟩));refine Lg eN fun N eN=>?_;refine (vE rfl (vI rfl rfl (SqT.of (s14 _ _ htk)) rfl ⟨.inl ⟨rfl,_,SqL.of (s14 _ _ hta)⟩,⟨ta,_,_,rfl,rfl,s14 _ _ hta,by rw[zAa]; lia,?_⟩⟩));have s15:Same H12 (upd H14 ta (.lst (A'.map V.str++[.str "q"]))):=Bv nta (s13.trans s14);generalize upd H14 ta (.lst (A'.map V.str++[.str "q"]))=H15 at s15;refine Lg eN fun N eN=>?_;have ha15:=s15.seq ha12;have hth15:=s15 _ _ hth12;have hca15:=s15 _ _ hca12;have bw15:=bw12.same s15;have h15:=s15 _ _ h12;have hma15:=s15 _ _ hma12;have hmb15:=s15 _ _ hmb12
 have hmc15:=s15 _ _ hmc12;have hmd15:=s15 _ _ hmd12;clear s15 s14 s13 ha12 hth12 hca12 bw12 h12 hma12 hmb12 hmc12 hmd12 htk hta htb htc htd nta nA2 sA2 mA2 nB2 sB2 mB2 pD2 mD2 pE2 mE2;refine (vE rfl ⟨bk,cs,rfl,bw15,m60',wd,fun cl xs H16 A2 B2 D2 E2 s16 ncl M2 hcl tp=>?_⟩);obtain⟨rfl,rfl,rfl,rfl⟩:=M4.uniq M2;refine Jk eN [some (.ref a),some (.int u),some (.int dr),some (.ref th),some (.ref ca),some (.ref n5),some (.ref r),some (.ref bk),some (.ref r3),some (.int bd),some (.ref tk),some (.ref cl),none,none,none,none,none,none] rfl fun N eN=>?_;refine (vE rfl (vE rfl ⟨bk,cs,bd,rfl,bw15.same s16,m60',b1,fun sr zs H17 E2 nsr s17 pE2 mE2 hsr tz=>?_⟩));obtain rfl:E'=E2:=Ll pE pE2 fun y=>(mE y).trans (mE2 y).symm;refine Jk eN [some (.ref a),some (.int u),some (.int dr),some (.ref th),some (.ref ca),some (.ref n5),some (.ref r),some (.ref bk),some (.ref r3),some (.int bd),some (.ref tk),some (.ref cl),some (.ref sr),none,none,none,none,none] rfl fun N eN=>?_;have S17:=s16.trans s17;have m4:FT H17 r3 A' B' D' E':=⟨ma,mb,mc,md,S17 _ _ h15,S17 _ _ hma15,S17 _ _ hmb15,S17 _ _ hmc15,S17 _ _ hmd15⟩;refine (vE rfl (vE rfl ⟨cl,r3,xs,A',B',D',E',rfl,s17 _ _ hcl,tp.same s17,m4,od,lA,lB,lD,fun H18 s18=>vE rfl (Cg ?_)⟩));have S18:=S17.trans s18;refine (vE rfl (vE rfl (vE rfl (vI rfl rfl (SqL.of (S18 _ _ h15)) rfl ⟨sr,md,zs,bd,E',rfl,s18 _ _ hsr,tz.same s18,S18 _ _ hmd15,pE,lE,b1,fun H19 s19=>vE rfl (Cg ?_)⟩))));have S19:=S18.trans s19;have ha19:=S19.seq ha15;have hth19:=S19 _ _ hth15
 have hca19:=S19 _ _ hca15;have bw19:=bw15.same S19;have h19:=S19 _ _ h15;have hma19:=S19 _ _ hma15;have hmb19:=S19 _ _ hmb15;have hmc19:=S19 _ _ hmc15;have hmd19:=S19 _ _ hmd15;have S1719:=s18.trans s19;have hcl19:=S1719 _ _ (s17 _ _ hcl);have tp19:=(tp.same s17).same S1719;have hsr19:=S1719 _ _ hsr;have tz19:=tz.same S1719;have srcl:sr≠cl:=fun e=>by rw[e,hcl] at nsr; cases nsr
 clear S18 S17 S1719 s19 s18 s17 s16 ha15 hth15 hca15 m4 hcl tp hsr tz M2 pE2 mE2 nsr;refine Lg eN fun N eN=>?_;refine⟨Str.ofString "abcdefghijklmnopqrstuvwxyz",rfl,fun p np=>?_⟩;rw[Hm];refine Q1 (l:=lettersL) (fun i ys H20=>ys=((lettersL.take i).map fun c=>tx [c]).map V.str/\H20 p=some (.lst ys)/\Same H19 H20) ⟨rfl,Ab,Ag np _⟩
  (fun i ys H20 _ ⟨e,h1,_⟩=>⟨h1,by rw[e,zAa,zAa,zAB]; lia⟩) (by rw[sl]; decide) (fun i c ys H20 hi ⟨e,h1,s2⟩=>?_) (fun ys H20 ⟨e,h20,s20⟩=>?_)
 ·refine (vE rfl ⟨h1,rfl,?_,Ab,Bv np s2⟩)
  rw[Cd hi,zAn,zAn,e];rfl
 rw[zAz] at e;subst e;have ha20:=s20.seq ha19;obtain⟨k27,hk27⟩:=Int.eq_ofNat_of_zero_le (Int.emod_nonneg (ns.getD (8:Int).toNat 0) (show (27:Int)≠0 by decide));refine (vE rfl ⟨a,ns,8,rfl,ha20,by decide,h63,vF rfl rfl ⟨(by show (0:Int)<27; decide),vE rfl ⟨p,_,rfl,SqL.of h20,fun p2 np2=>?_⟩⟩⟩);have s21:=Ag np2 (.lst (Hd (((lettersL.map fun c=>tx [c])).map V.str) none (some (ns.getD (8:Int).toNat 0%27))));have h21:upd H20 p2 (.lst (Hd (((lettersL.map fun c=>tx [c])).map V.str) none (some (ns.getD (8:Int).toNat 0%27)))) p2=some (.lst (((lettersL.map fun c=>tx [c]).take k27).map V.str)):=by rw[Ab,hk27,Vf,List.map_take]
 have ll:((lettersL.map fun c=>tx [c]).take k27).length<=26:=by rw[zAB,zAa]; exact zAE (Nat.min_le_right _ _) (by decide)
 generalize upd H20 p2 (.lst (Hd (((lettersL.map fun c=>tx [c])).map V.str) none (some (ns.getD (8:Int).toNat 0%27))))=H21 at s21 h21;generalize (lettersL.map fun c=>tx [c]).take k27=LT at h21 ll;refine (vE rfl ⟨p2,ca,_,_,rfl,rfl,h21,s21 _ _ (s20 _ _ hca19),by rw[zAa,zAa]; lia,fun p3 np3=>?_⟩);have s22:=Ag np3 (.lst (LT.map V.str++CA.map V.str));have h22:upd H21 p3 (.lst (LT.map V.str++CA.map V.str)) p3=some (.lst (LT.map V.str++CA.map V.str)):=Ab;generalize upd H21 p3 (.lst (LT.map V.str++CA.map V.str))=H22 at s22 h22;refine⟨Ce (by show 2<=1000; decide),fun p4 np4=>?_⟩;refine⟨p3,p4,_,_,rfl,rfl,Ag np4 _ _ _ h22,Ab,by rw[zAe,zAa,zAa]; show _+2<=_; lia,fun sm nsm=>?_⟩;obtain⟨s24,h24⟩:=Gb (xs:=LT.map V.str++CA.map V.str) np4 nsm;refine Jk eN [some (.ref a),some (.int u),some (.int dr),some (.ref th),some (.ref ca),some (.ref n5),some (.ref r),some (.ref bk),some (.ref r3),some (.int bd),some (.ref tk),some (.ref cl),some (.ref sr),some (.ref sm),none,none,none,none] rfl fun N eN=>?_;have eSS:LT.map V.str++CA.map V.str++[V.str "aa",.str "ac"]=(LT++CA++[("aa" : Str), "ac"]).map V.str:=by rw[zAn,zAn]; rfl
 have lSS:(LT++CA++[("aa" : Str), "ac"]).length<=60:=by rw[zAe,zAe]; show _+_+2<=_; lia
 generalize upd (upd H22 p4 (.lst [V.str "aa",.str "ac"])) sm (.lst (LT.map V.str++CA.map V.str++[V.str "aa",.str "ac"]))=H24 at s24 h24;rw[eSS] at h24;generalize LT++CA++[("aa" : Str), "ac"]=SS at h24 lSS;have S24:=s20.trans (s21.trans (s22.trans s24));clear eSS nsm np4 np3 np2 np s24 s22 s21 s20 h20 h21 h22 ha20 hk27 ll;refine (vE rfl ⟨sm,_,rfl,.inl (SqL.of h24),fun kp nkp=>?_⟩);refine Jk eN [some (.ref a),some (.int u),some (.int dr),some (.ref th),some (.ref ca),some (.ref n5),some (.ref r),some (.ref bk),some (.ref r3),some (.int bd),some (.ref tk),some (.ref cl),some (.ref sr),some (.ref sm),some (.ref kp),none,none,none] rfl fun N eN=>?_;have s25:=Ag nkp (.lst (SS.map V.str));have h25:upd H24 kp (.lst (SS.map V.str)) kp=some (.lst (SS.map V.str)):=Ab;generalize upd H24 kp (.lst (SS.map V.str))=H25 at s25 h25;have hsm25:=s25 _ _ h24;refine (vE rfl ⟨sm,SS,rfl,hsm25,lSS,fun q1 H26 s26 q6 no al'=>vE rfl ⟨sm,SS,rfl,s26 _ _ hsm25,lSS,fun n fn=>⟨rfl,vE rfl (nF (congrArg V.str (fstN.uniq ⟨q1,q6,rfl,no,al'⟩ fn)) ?_)⟩⟩⟩);refine (vE rfl (vE rfl ⟨sm,kp,_,_,rfl,rfl,SqL.of (s26 _ _ hsm25),SqL.of (s26 _ _ h25),Cy SS,Cy SS,vE rfl ?_⟩));refine (show (if (!Np (SS.map V.str) (SS.map V.str))=true then _ else _) from ?_);rw[Hj (Cy SS)];refine Cg ⟨zAC _,fun em nem=>?_⟩;have s27:=Ag nem (.lst []);refine⟨em,[],rfl,Ab,by decide,fun q2 H28 s28 q6' no' al2=>⟨rfl,vE rfl (nF ?_ ?_)⟩⟩
 ·rcases Nat.eq_zero_or_pos q2 with z | z
  ·rw[z]
   exact congrArg V.str (by ac_nf)
  ·exact absurd (al2 0 z) zBW
 have S28:=S24.trans (s25.trans (s26.trans (s27.trans s28)));have ha28:=S28.seq ha19;have hth28:=S28 _ _ hth19;have hca28:=S28 _ _ hca19;have bw28:=bw19.same S28;have h28:=S28 _ _ h19;have hma28:=S28 _ _ hma19;have hmb28:=S28 _ _ hmb19;have hmc28:=S28 _ _ hmc19;have hmd28:=S28 _ _ hmd19;have hcl28:=S28 _ _ hcl19;have tp28:=tp19.same S28;have hsr28:=S28 _ _ hsr19;have tz28:=tz19.same S28;clear S24 s25 s26 s27 s28 h25 hsm25 h24 nkp nem ha19 hth19 hca19 bw19 h19 hma19 hmb19 hmc19 hmd19 hcl19 tp19 hsr19 tz19 no al' no' al2;refine Lg eN fun N eN=>?_;refine⟨one,fun o1 n1=>?_⟩;have s29:=Ag n1 (.lst [V.int 0]);have h29:upd H28 o1 (.lst [V.int 0]) o1=some (.lst [V.int 0]):=Ab;generalize upd H28 o1 (.lst [V.int 0])=H29 at s29 h29;obtain⟨ms,ems,lms⟩:=W0 ns (some 11) (some 50);refine (vE rfl (vE rfl (vE rfl ⟨a,_,rfl,s29.seq ha28,fun p5 np5=>?_⟩)));have s30:=Ag np5 (.lst (Hd (ns.map V.int) (some 11) (some 50)));have h30:upd H29 p5 (.lst (Hd (ns.map V.int) (some 11) (some 50))) p5=some (.lst (ms.map V.int)):=by rw[Ab,ems]
 generalize upd H29 p5 (.lst (Hd (ns.map V.int) (some 11) (some 50)))=H30 at s30 h30;refine⟨o1,p5,_,_,rfl,rfl,s30 _ _ h29,h30,by rw[zAa]; show 1+_<=_; lia,fun lp nlp=>?_⟩;have s31:=Ag nlp (.lst ([V.int 0]++ms.map V.int));have h31:upd H30 lp (.lst ([V.int 0]++ms.map V.int)) lp=some (.lst ((0::ms).map V.int)):=Ab;generalize upd H30 lp (.lst ([V.int 0]++ms.map V.int))=H31 at s31 h31;have S31:=s29.trans (s30.trans s31);refine⟨lp,rfl,⟨_,SqL.of h31⟩,?_⟩;have xl:0<xs.length:=by
  rw[tp28.len,Gf,zAe];exact Nat.mul_pos (Nat.succ_pos _) (Nat.mul_pos (Nat.succ_pos _) (Nat.succ_pos _))
 refine Cm (K:=K) (a:=lp) (xs:=(0::ms).map V.int) (fun i σ H32=>(∃ o15 o16,σ=[some (.ref a),some (.int u),some (.int dr),some (.ref th),some (.ref ca),some (.ref n5),some (.ref r),some (.ref bk),some (.ref r3),some (.int bd),some (.ref tk),some (.ref cl),some (.ref sr),some (.ref sm),some (.ref kp),o15,o16,none])/\Same H31 H32) ⟨⟨none,none,rfl⟩,Same.refl _⟩ (fun i σ H32 _ hh=>SqL.of (hh.2 _ _ h31)) ?_ ?_
 ·rintro i x σ H32 hi ⟨⟨o15,o16,rfl⟩,s32⟩
  rw[zAl] at hi;obtain⟨c,hc,rfl⟩:=zAy.mp hi;have S32:=S31.trans s32;have hcl32:=S32 _ _ hcl28;refine Gk [some (.ref a),some (.int u),some (.int dr),some (.ref th),some (.ref ca),some (.ref n5),some (.ref r),some (.ref bk),some (.ref r3),some (.int bd),some (.ref tk),some (.ref cl),some (.ref sr),some (.ref sm),some (.ref kp),some (.int c),o16,none] rfl ?_;refine Oo fun N2 eN2=>?_;obtain⟨j,hj⟩:=Int.eq_ofNat_of_zero_le (Int.emod_nonneg c (show (xs.length:Int)≠0 by lia));have jl:j<xs.length:=by have:=Int.emod_lt_of_pos c (show (0:Int)<(xs.length:Int) by lia); lia
  have ej:xs[j]?=some xs[j]:=zAf jl;obtain⟨t,rr,hrr,et,ht⟩:=tp28.get ej;rw[et] at ej;obtain⟨c',t',pr,rfl⟩:=Kp (zAu hrr);have hat:Nt xs (c%(xs.length:Int))=some (.ref t):=by
   rw[hj];exact Fq ej
  have ht32:=S32 _ _ ht;refine (vE rfl (vE rfl (vE rfl ⟨cl,xs,rfl,.inl (SqL.of hcl32),vF rfl rfl ⟨(by show (0:Int)<(xs.length:Int); lia),vI rfl rfl (SqL.of hcl32) hat ?_⟩⟩)));refine Jk eN2 [some (.ref a),some (.int u),some (.int dr),some (.ref th),some (.ref ca),some (.ref n5),some (.ref r),some (.ref bk),some (.ref r3),some (.int bd),some (.ref tk),some (.ref cl),some (.ref sr),some (.ref sm),some (.ref kp),some (.int c),some (.ref t),none] rfl fun N2 eN2=>?_;refine (vE rfl (vE rfl (vE rfl (vE rfl (vF rfl rfl ⟨(by show (0:Int)<bd; lia),vF rfl rfl (vE rfl ⟨bk,cs,t,c',t',r3,pr.1,pr.2,_,A',B',D',E',rfl,bw28.same S32,m60',ht32,M4,⟨ma,mb,mc,md,S32 _ _ h28,S32 _ _ hma28,S32 _ _ hmb28⟩,fun H33 s33=>vE rfl (Cg ?_)⟩)⟩)))));show N2 _ H33;rw[eN2];have S33:=S32.trans s33;refine (vE rfl (vE rfl (vE rfl ⟨_,rfl,fun d dd0 dd1=>vE rfl (vE rfl ⟨cl,r3,th,ca,xs,d,A',B',D',TH,CA,rfl,S33 _ _ hcl28,tp28.same S33,⟨ma,mb,mc,md,S33 _ _ h28,S33 _ _ hma28,S33 _ _ hmb28⟩,S33 _ _ hth28,S33 _ _ hca28,lT3,lC3,dd0,nA,nB,neA,neB,pD,od.2,lA,lB,lD,fun H34 s34=>vE rfl (Cg ⟨⟨_,_,rfl⟩,s32.trans (s33.trans s34)⟩)⟩)⟩)))
 ·rintro σ H32 ⟨⟨o15,o16,rfl⟩,s32⟩
  refine Lg eN fun N eN=>?_;have S32:=S31.trans s32;have hcl32:=S32 _ _ hcl28;have lx:xs.length<=61*(61*61):=by
   rw[tp28.len,Gf,zAe];exact zBv (by show A'.length+1<=61; lia) (zBv (by lia) (by lia))
  refine (vE rfl ⟨cl,xs,rfl,.inl (SqL.of hcl32),fun ag nag=>?_⟩);refine Jk eN [some (.ref a),some (.int u),some (.int dr),some (.ref th),some (.ref ca),some (.ref n5),some (.ref r),some (.ref bk),some (.ref r3),some (.int bd),some (.ref tk),some (.ref cl),some (.ref sr),some (.ref sm),some (.ref kp),o15,o16,some (.ref ag)] rfl fun N eN=>?_;have s33:=Ag nag (.lst xs);have h33:upd H32 ag (.lst xs) ag=some (.lst xs):=Ab;have agcl:ag≠cl:=fun e=>by rw[e,hcl32] at nag; cases nag
  generalize upd H32 ag (.lst xs)=H33 at s33 h33;have hcl33:=s33 _ _ hcl32;refine (vE rfl ⟨.inl ⟨rfl,_,SqL.of hcl33⟩,⟨cl,_,_,rfl,rfl,hcl33,by lia,?_⟩⟩);show N _ _;rw[eN];have S33:=S32.trans s33;have h34:upd H33 cl (.lst (xs++[V.int 1])) ag=some (.lst xs):=by rw[Ar agcl]; exact h33
  have hsr34:upd H33 cl (.lst (xs++[V.int 1])) sr=some (.lst zs):=by rw[Ar srcl]; exact S33 _ _ hsr28
  have tp34:Tps (upd H33 cl (.lst (xs++[V.int 1]))) xs _:=(tp28.same S33).lst hcl33;have tz34:Tps (upd H33 cl (.lst (xs++[V.int 1]))) zs _:=(tz28.same S33).lst hcl33;have s34:Same H15 (upd H33 cl (.lst (xs++[V.int 1]))):=Bv ncl (S19.trans (S28.trans S33));generalize upd H33 cl (.lst (xs++[V.int 1]))=H34 at h34 hsr34 tp34 tz34 s34;have bw34:=bw15.same s34;refine (vE rfl ⟨bk,cs,rfl,bw34,m60',wd,fun cl2 xs2 H35 A2 B2 D2 E2 s35 ncl2 M2 hcl2 tp2=>?_⟩);obtain⟨rfl,rfl,rfl,rfl⟩:=M4.uniq M2;have fr:∀ rr∈Cu B' D' (A'++[("" : Str)]),rr.all Ci=true:=fun rr h=>by
   obtain⟨c,t,pr,rfl⟩:=Kp h;rfl
  refine (vE rfl ⟨false,_,_,Lo hcl2 tp2 fr,Lo (s35 _ _ h34) (tp34.same s35) fr,by have:=Lb (Cu B' D' (A'++[("" : Str)])) true; lia,vE rfl ?_⟩);refine (show (if eqDs ((Cu B' D' (A'++[("" : Str)])).map (Hx true)) ((Cu B' D' (A'++[("" : Str)])).map (Hx true))=true then _ else _) from ?_);rw[Tt fr];refine Kn (vE rfl ⟨bk,cs,rfl,bw34.same s35,m60',fun tk2 ta2 tb2 tc2 td2 A3 B3 D3 E3 H36 s36 htk2 hta2 htb2 htc2 htd2 nA3 sA3 mA3 nB3 sB3 mB3 pD3 mD3 pE3 mE3 _=>?_⟩);obtain⟨rfl,rfl,rfl,rfl⟩:=M4.uniq ⟨nA3,sA3,mA3,nB3,sB3,mB3,pD3,mD3,pE3,mE3⟩;refine⟨tk2,_,rfl,.inr (SqT.of htk2),fun lm2 nlm2=>?_⟩;have s37:=Ag nlm2 (.lst [V.ref ta2,.ref tb2,.ref tc2,.ref td2]);have h37:upd H36 lm2 (.lst [V.ref ta2,.ref tb2,.ref tc2,.ref td2]) lm2=some (.lst [V.ref ta2,.ref tb2,.ref tc2,.ref td2]):=Ab;generalize upd H36 lm2 (.lst [V.ref ta2,.ref tb2,.ref tc2,.ref td2])=H37 at s37 h37;have S37:=s34.trans (s35.trans (s36.trans s37));refine (vE rfl ⟨false,_,_,FF h37 (s37 _ _ hta2) (s37 _ _ htb2) (s37 _ _ htc2) (s37 _ _ htd2),FF (S37 _ _ h15) (S37 _ _ hma15) (S37 _ _ hmb15) (S37 _ _ hmc15) (S37 _ _ hmd15),by have:=Lb (Vn A' B' D' E') false; lia,vE rfl ?_⟩);refine (show (if eqDs ((Vn A' B' D' E').map (Hx false)) ((Vn A' B' D' E').map (Hx false))=true then _ else _) from ?_);rw[Tt (Yp A' B' D' E')];refine Kn (vE rfl (vE rfl ⟨bk,cs,bd,rfl,bw15.same S37,m60',b1,fun sr2 zs2 H38 E3 nsr2 s38 pE4 mE4 hsr2 tz2=>?_⟩));obtain rfl:E'=E3:=Ll pE pE4 fun y=>(mE y).trans (mE4 y).symm;have fs:∀ rr∈(Gs (E'.filter fun y=>decide (1<=y/\y<bd)) bd).map BK,rr.all Ci=true:=fun rr h=>by
   obtain⟨pr,_,rfl⟩:=zAA.mp h;rfl
  have S38:=s35.trans (s36.trans (s37.trans s38));refine (vE rfl ⟨false,_,_,Lo hsr2 tz2 fs,Lo (S38 _ _ hsr34) (tz34.same S38) fs,by have:=Lb ((Gs (E'.filter fun y=>decide (1<=y/\y<bd)) bd).map BK) true; lia,?_⟩);show Q (V.bl (eqDs (((Gs (E'.filter fun y=>decide (1<=y/\y<bd)) bd).map BK).map (Hx true)) (((Gs (E'.filter fun y=>decide (1<=y/\y<bd)) bd).map BK).map (Hx true)))) H38;rw[Tt fs];exact q _
end
theorem W7 {P:Program} {w:World} {K:zAb} {mg:Str->Option Value} {base:Heap} {CX:L1} {k:Nat} {f:Addr} {fd:zCt} {ps:List Str} {sp:Sp} (h:∀ vs H Q E,¬ sp vs H Q E):FnOk P w K mg base CX k f fd ps sp:=
 ⟨fun vs H Q E z=>absurd z (h vs H Q E),fun _ _ _ _ _ _ _ _ _ _ _ _ _ z=>absurd z (h _ _ _ _)⟩
theorem all_mk {l:PySem.W.OpenLaw} {w:World} {K:zAb} {h:Heap} {mg:Str->Option Value} {fa:Addr} (X:K.In h) (G:h.Ns zCu mg) (hfa:mg "law" = some (.ref fa))
  {f0:Addr} (d0:DfIn K "is_whole" Kx f0)
  {f1:Addr} (d1:DfIn K "has_letters_alone" Ea f1)
  {f2:Addr} (d2:DfIn K "is_name" Nh f2)
  {f3:Addr} (d3:DfIn K "marked" Qj f3)
  {f4:Addr} (d4:DfIn K "marks_of" Ks f4)
  {f5:Addr} (d5:DfIn K "name_at" Mh f5)
  {f6:Addr} (d6:DfIn K "another" Mr f6)
  {f7:Addr} (d7:DfIn K "day_stretches" Fb f7)
  {f8:Addr} (d8:DfIn K "cells_of" Kc f8)
  {f9:Addr} (d9:DfIn K "stretches_of" Gi f9)
  {f10:Addr} (d10:DfIn K "loss_in" Nc f10)
  {f11:Addr} (d11:DfIn K "marks_with" Ik f11)
  {f12:Addr} (d12:DfIn K "are_weights" Gx f12)
  {f13:Addr} (d13:DfIn K "may_have" Kd f13)
  {f14:Addr} (d14:DfIn K "due_by" Qa f14)
  {f15:Addr} (d15:DfIn K "place_of_turn" Fa f15)
  {f16:Addr} (d16:DfIn K "turns" Uc f16)
  {f17:Addr} (d17:DfIn K "check_houses" Ga f17)
  {f18:Addr} (d18:DfIn K "_law_cell" Jg f18)
  {f19:Addr} (d19:DfIn K "_law_whole" Ht f19)
  {f20:Addr} (d20:DfIn K "_law_spread" Gw f20)
  {f21:Addr} (d21:DfIn K "_law_names" Hq f21)
  {f22:Addr} (d22:DfIn K "_law_amount" Gq f22)
  {f23:Addr} (d23:DfIn K "_law_unit" Je f23)
  {f24:Addr} (d24:DfIn K "_law_cond" Iv f24)
  {f25:Addr} (d25:DfIn K "_law_condition" En f25)
  {f26:Addr} (d26:DfIn K "_law_marks" Hr f26)
  {f27:Addr} (d27:DfIn K "_law_named" Ii f27)
  {f28:Addr} (d28:DfIn K "_law_list" Jf f28)
  {f29:Addr} (d29:DfIn K "_law_other" Ie f29)
  {f30:Addr} (d30:DfIn K "_law_cell_right" Ei f30)
  {f31:Addr} (d31:DfIn K "_law_cells_right" Ed f31)
  {f32:Addr} (d32:DfIn K "_law_stretches_right" Dh f32)
  {f33:Addr} (d33:DfIn K "_law_loss_right" El f33)
  {f34:Addr} (d34:DfIn K "_law_once" Ix f34)
  {f35:Addr} (d35:DfIn K "_law_bound" Ib f35)
  {f36:Addr} (d36:DfIn K "_law_told_marks" Em f36)
  {f37:Addr} (d37:DfIn K "law" Pj f37)
  {Ad:Addr} (q_Condition:ClIn K "Condition" Ad)
  {Ai:Addr} (q_CauseIs:ClIn K "CauseIs" Ai)
  (na_CauseIs_name:zAh K (.ref Ai) "name" = some none)
  {Ah:Addr} (q_ThingIs:ClIn K "ThingIs" Ah)
  (na_ThingIs_name:zAh K (.ref Ah) "name" = some none)
  {Ak:Addr} (q_DaysIn:ClIn K "DaysIn" Ak)
  (na_DaysIn_first:zAh K (.ref Ak) "first" = some none)
  (na_DaysIn_last:zAh K (.ref Ak) "last" = some none)
  {Aq:Addr} (q_Over:ClIn K "Over" Aq)
  (na_Over_cents:zAh K (.ref Aq) "cents" = some none)
  {Ax:Addr} (q_Not:ClIn K "Not" Ax)
  (na_Not_part:zAh K (.ref Ax) "part" = some none)
  {Aw:Addr} (q_All:ClIn K "All" Aw)
  (na_All_several:zAh K (.ref Aw) "several" = some none)
  {Ap:Addr} (q_Some:ClIn K "Some" Ap)
  (na_Some_several:zAh K (.ref Ap) "several" = some none)
  {Bj:Addr} (q_Deal:ClIn K "Deal" Bj)
  (na_Deal_wheel:zAh K (.ref Bj) "wheel" = some none)
  (na_Deal_weights:zAh K (.ref Bj) "weights" = some none)
  {Al:Addr} (q_Cover:ClIn K "Cover" Al)
  (na_Cover_name:zAh K (.ref Al) "name" = some none)
  (na_Cover_condition:zAh K (.ref Al) "condition" = some none)
  (na_Cover_clauses:zAh K (.ref Al) "clauses" = some none)
  (na_Cover_houses:zAh K (.ref Al) "houses" = some none)
  (na_Cover_deal:zAh K (.ref Al) "deal" = some none)
  (na_Cover_waits:zAh K (.ref Al) "waits" = some none)
  {Az:Addr} (q_Book:ClIn K "Book" Az)
  (na_Book_covers:zAh K (.ref Az) "covers" = some none)
  (na_Book_asking:zAh K (.ref Az) "asking" = some none)
  (nd_C:([Ad,Ai,Ah,Ak,Aq,Ax,Aw,Ap,Bj,Al,Az]:List Addr).Nodup)
  {fCondition_marks:Addr} (a_Condition_marks:zAh K (.ref Ad) "marks" = some (some (.ref fCondition_marks))) (iCondition_marks:MtIn K "marks" "Condition.marks" Ej fCondition_marks)
  {fCauseIs___init__:Addr} (a_CauseIs___init__:zAh K (.ref Ai) "__init__" = some (some (.ref fCauseIs___init__))) (iCauseIs___init__:MtIn K "__init__" "CauseIs.__init__" Ef fCauseIs___init__)
  {fCauseIs_marks:Addr} (a_CauseIs_marks:zAh K (.ref Ai) "marks" = some (some (.ref fCauseIs_marks))) (iCauseIs_marks:MtIn K "marks" "CauseIs.marks" Fj fCauseIs_marks)
  {fThingIs___init__:Addr} (a_ThingIs___init__:zAh K (.ref Ah) "__init__" = some (some (.ref fThingIs___init__))) (iThingIs___init__:MtIn K "__init__" "ThingIs.__init__" Ec fThingIs___init__)
  {fThingIs_marks:Addr} (a_ThingIs_marks:zAh K (.ref Ah) "marks" = some (some (.ref fThingIs_marks))) (iThingIs_marks:MtIn K "marks" "ThingIs.marks" Ff fThingIs_marks)
  {fDaysIn___init__:Addr} (a_DaysIn___init__:zAh K (.ref Ak) "__init__" = some (some (.ref fDaysIn___init__))) (iDaysIn___init__:MtIn K "__init__" "DaysIn.__init__" Ek fDaysIn___init__)
  {fDaysIn_marks:Addr} (a_DaysIn_marks:zAh K (.ref Ak) "marks" = some (some (.ref fDaysIn_marks))) (iDaysIn_marks:MtIn K "marks" "DaysIn.marks" Gg fDaysIn_marks)
  {fOver___init__:Addr} (a_Over___init__:zAh K (.ref Aq) "__init__" = some (some (.ref fOver___init__))) (iOver___init__:MtIn K "__init__" "Over.__init__" Fk fOver___init__)
  {fOver_marks:Addr} (a_Over_marks:zAh K (.ref Aq) "marks" = some (some (.ref fOver_marks))) (iOver_marks:MtIn K "marks" "Over.marks" Il fOver_marks)
  {fNot___init__:Addr} (a_Not___init__:zAh K (.ref Ax) "__init__" = some (some (.ref fNot___init__))) (iNot___init__:MtIn K "__init__" "Not.__init__" Gh fNot___init__)
  {fNot_marks:Addr} (a_Not_marks:zAh K (.ref Ax) "marks" = some (some (.ref fNot_marks))) (iNot_marks:MtIn K "marks" "Not.marks" Jj fNot_marks)
  {fAll___init__:Addr} (a_All___init__:zAh K (.ref Aw) "__init__" = some (some (.ref fAll___init__))) (iAll___init__:MtIn K "__init__" "All.__init__" Gc fAll___init__)
  {fAll_marks:Addr} (a_All_marks:zAh K (.ref Aw) "marks" = some (some (.ref fAll_marks))) (iAll_marks:MtIn K "marks" "All.marks" Ji fAll_marks)
  {fSome___init__:Addr} (a_Some___init__:zAh K (.ref Ap) "__init__" = some (some (.ref fSome___init__))) (iSome___init__:MtIn K "__init__" "Some.__init__" Fl fSome___init__)
  {fSome_marks:Addr} (a_Some_marks:zAh K (.ref Ap) "marks" = some (some (.ref fSome_marks))) (iSome_marks:MtIn K "marks" "Some.marks" Ig fSome_marks)
  {fDeal___init__:Addr} (a_Deal___init__:zAh K (.ref Bj) "__init__" = some (some (.ref fDeal___init__))) (iDeal___init__:MtIn K "__init__" "Deal.__init__" Ez fDeal___init__)
  {fCover___init__ dvCover___init__:Addr} {odCover___init__ anCover___init__:Option Addr} {slCover___init__:Array (Option Value)} {ocCover___init__ kVCover___init__ dcCover___init__ pmCover___init__ cdCover___init__ ctCover___init__:Value}
  (a_Cover___init__:zAh K (.ref Al) "__init__" = some (some (.ref fCover___init__)))
  (iCover___init__:zCf K (.ref fCover___init__)=true) (lCover___init__:K.lookup fCover___init__=some ⟨ocCover___init__,odCover___init__,.func (zAV "__init__" "Cover.__init__" (De Bw) (Cs Bw) (An Bw) (.ref dvCover___init__) kVCover___init__ dcCover___init__ pmCover___init__ anCover___init__ cdCover___init__ ctCover___init__),slCover___init__⟩) (cCover___init__:zBu K cdCover___init__ "Cover.__init__" = true) (kCover___init__:zAX K (.ref fCover___init__)=true)
  {ndCover___init__:Nat} (dlCover___init__:K.lookup dvCover___init__=some ⟨.type "tuple",none,.seq #[.none,.none,.bool false] ndCover___init__,#[]⟩)
  {fBook___init__:Addr} (a_Book___init__:zAh K (.ref Az) "__init__" = some (some (.ref fBook___init__))) (iBook___init__:MtIn K "__init__" "Book.__init__" Fh fBook___init__)
  (ni_Condition:zAh K (.ref Ad) "__init__" = some (some (.builtin "object.__init__")))
  {tk_ANY_OTHER:Tok} (z_ANY_OTHER:zAH K zCu "ANY_OTHER" = some (some (.str "" tk_ANY_OTHER)))
  {tk_COVERED_ONE:Tok} (z_COVERED_ONE:zAH K zCu "COVERED_ONE" = some (some (.str "self" tk_COVERED_ONE)))
  {tk_LAST_DAY:Tok} (z_LAST_DAY:zAH K zCu "LAST_DAY" = some (some (.int 1000000 tk_LAST_DAY)))
  {tk_LETTERS:Tok} (z_LETTERS:zAH K zCu "LETTERS" = some (some (.str "abcdefghijklmnopqrstuvwxyz" tk_LETTERS)))
  {tk_LONGEST_NAME:Tok} (z_LONGEST_NAME:zAH K zCu "LONGEST_NAME" = some (some (.int 8 tk_LONGEST_NAME)))
  {tk_MOST_CELLS:Tok} (z_MOST_CELLS:zAH K zCu "MOST_CELLS" = some (some (.int 120 tk_MOST_CELLS)))
  {tk_MOST_CLAUSES:Tok} (z_MOST_CLAUSES:zAH K zCu "MOST_CLAUSES" = some (some (.int 8 tk_MOST_CLAUSES)))
  {tk_MOST_COVERS:Tok} (z_MOST_COVERS:zAH K zCu "MOST_COVERS" = some (some (.int 8 tk_MOST_COVERS)))
  {tk_MOST_PLACES:Tok} (z_MOST_PLACES:zAH K zCu "MOST_PLACES" = some (some (.int 8 tk_MOST_PLACES)))
  {tk_MOST_TURNS:Tok} (z_MOST_TURNS:zAH K zCu "MOST_TURNS" = some (some (.int 100 tk_MOST_TURNS)))
  (z_bool:zAH K zCu "bool" = some none)
  (z_enumerate:zAH K zCu "enumerate" = some none)
  (z_int:zAH K zCu "int" = some none)
  (z_isinstance:zAH K zCu "isinstance" = some none)
  (z_len:zAH K zCu "len" = some none)
  (z_list:zAH K zCu "list" = some none)
  (z_max:zAH K zCu "max" = some none)
  (z_range:zAH K zCu "range" = some none)
  (z_set:zAH K zCu "set" = some none)
  (z_sorted:zAH K zCu "sorted" = some none)
  (z_str:zAH K zCu "str" = some none)
  (z_sum:zAH K zCu "sum" = some none)
  (z_tuple:zAH K zCu "tuple" = some none)
  (z_zip:zAH K zCu "zip" = some none) :
  ∃ fd:zCt,(∀ (s:Shared) (v:Value),BindsTo s fd ⟨[v],[]⟩ [("_law_script",v)])/\∀ base:Heap,K.In base->base.Ns zCu mg->FnOk l.prog w K mg base Dv 12 fa fd ["_law_script"] (B8 K):=by
 have e:=hfa.symm.trans (zAF X G d37.ns);cases e;have D_is_whole:=d0.df X G (ps:=["thing"]) fun _ _ _ _ _ _=>Ny fun _=>rfl;have D_has_letters_alone:=d1.df X G (ps:=["text"]) fun _ _ _ _ _ _=>Ny fun _=>rfl;have D_is_name:=d2.df X G (ps:=["thing"]) fun _ _ _ _ _ _=>Ny fun _=>rfl;have D_marked:=d3.df X G (ps:=["marks", "sort"]) fun _ _ _ _ _ _=>Xm fun _ _=>rfl;have D_marks_of:=d4.df X G (ps:=["book"]) fun _ _ _ _ _ _=>Ny fun _=>rfl;have D_name_at:=d5.df X G (ps:=["place"]) fun _ _ _ _ _ _=>Ny fun _=>rfl;have D_another:=d6.df X G (ps:=["names"]) fun _ _ _ _ _ _=>Ny fun _=>rfl;have D_day_stretches:=d7.df X G (ps:=["days"]) fun _ _ _ _ _ _=>Ny fun _=>rfl;have D_cells_of:=d8.df X G (ps:=["book"]) fun _ _ _ _ _ _=>Ny fun _=>rfl;have D_stretches_of:=d9.df X G (ps:=["book", "bound"]) fun _ _ _ _ _ _=>Xm fun _ _=>rfl;have D_loss_in:=d10.df X G (ps:=["book", "cell", "cents"]) fun _ _ _ _ _ _=>BY fun _ _ _=>rfl;have D_marks_with:=d11.df X G (ps:=["several"]) fun _ _ _ _ _ _=>Ny fun _=>rfl;have D_are_weights:=d12.df X G (ps:=["thing"]) fun _ _ _ _ _ _=>Ny fun _=>rfl;have D_may_have:=d13.df X G (ps:=["weight", "dealt", "total", "turn"]) fun _ _ _ _ _ _=>HD fun _ _ _ _=>rfl;have D_due_by:=d14.df X G (ps:=["weight", "dealt", "total"]) fun _ _ _ _ _ _=>BY fun _ _ _=>rfl;have D_place_of_turn:=d15.df X G (ps:=["weights", "dealt", "turn"]) fun _ _ _ _ _ _=>BY fun _ _ _=>rfl;have D_turns:=d16.df X G (ps:=["weights"]) fun _ _ _ _ _ _=>Ny fun _=>rfl;have D_check_houses:=d17.df X G (ps:=["houses"]) fun _ _ _ _ _ _=>Ny fun _=>rfl
 have D__law_cell:=d18.df X G (ps:=["_law_script", "_law_k"]) fun _ _ _ _ _ _=>Xm fun _ _=>rfl;have D__law_whole:=d19.df X G (ps:=["_law_found"]) fun _ _ _ _ _ _=>Ny fun _=>rfl;have D__law_spread:=d20.df X G (ps:=["_law_cell_here"]) fun _ _ _ _ _ _=>Ny fun _=>rfl;have D__law_names:=d21.df X G (ps:=["_law_cell_here", "_law_many"]) fun _ _ _ _ _ _=>Xm fun _ _=>rfl;have D__law_amount:=d22.df X G (ps:=["_law_digit", "_law_unit_here"]) fun _ _ _ _ _ _=>Xm fun _ _=>rfl;have D__law_unit:=d23.df X G (ps:=["_law_script"]) fun _ _ _ _ _ _=>Ny fun _=>rfl;have D__law_cond:=d24.df X G (ps:=["_law_cell_here", "_law_things", "_law_causes", "_law_unit_here"]) fun _ _ _ _ _ _=>HD fun _ _ _ _=>rfl;have D__law_condition:=d25.df X G (ps:=["_law_cond_here"]) fun _ _ _ _ _ _=>Ny fun _=>rfl;have D__law_marks:=d26.df X G (ps:=["_law_cond_here"]) fun _ _ _ _ _ _=>Ny fun _=>rfl;have D__law_named:=d27.df X G (ps:=["_law_conds", "_law_word"]) fun _ _ _ _ _ _=>Xm fun _ _=>rfl;have D__law_list:=d28.df X G (ps:=["_law_found", "_law_due", "_law_text"]) fun _ _ _ _ _ _=>BY fun _ _ _=>rfl;have D__law_other:=d29.df X G (ps:=["_law_names_here"]) fun _ _ _ _ _ _=>Ny fun _=>rfl;have D__law_cell_right:=d30.df X G (ps:=["_law_cell_here", "_law_cause", "_law_thing", "_law_day", "_law_days"]) fun _ _ _ _ _ _=>HY fun _ _ _ _ _=>rfl;have D__law_cells_right:=d31.df X G (ps:=["_law_cells", "_law_marks_here"]) fun _ _ _ _ _ _=>Xm fun _ _=>rfl;have D__law_stretches_right:=d32.df X G (ps:=["_law_found", "_law_bound_here", "_law_amounts"]) fun _ _ _ _ _ _=>BY fun _ _ _=>rfl
 have D__law_loss_right:=d33.df X G (ps:=["_law_book", "_law_cell_here", "_law_cents", "_law_marks_here"]) fun _ _ _ _ _ _=>HD fun _ _ _ _=>rfl;have D__law_once:=d34.df X G (ps:=["_law_cells", "_law_marks_here", "_law_drawn", "_law_things", "_law_causes"]) fun _ _ _ _ _ _=>HY fun _ _ _ _ _=>rfl;have D__law_bound:=d35.df X G (ps:=["_law_script", "_law_amounts", "_law_unit_here"]) fun _ _ _ _ _ _=>BY fun _ _ _=>rfl;have D__law_told_marks:=d36.df X G (ps:=["_law_told", "_law_marks_here"]) fun _ _ _ _ _ _=>Xm fun _ _=>rfl;obtain⟨od37,an37,sl37,oc37,kV37,dc37,pm37,cd37,ct37,l37,c37⟩:=d37.ex;have F37:=Ys (x := "law") (qual := "law") (st:=Pj) l37 c37 d37.kp;obtain⟨_,F_Condition_marks,B_Condition_marks⟩:=iCondition_marks.get (ps:=["self"]) fun _ _ _ _ _ _=>Ny fun _=>rfl;obtain⟨_,F_CauseIs___init__,B_CauseIs___init__⟩:=iCauseIs___init__.get (ps:=["self", "name"]) fun _ _ _ _ _ _=>Xm fun _ _=>rfl;obtain⟨_,F_CauseIs_marks,B_CauseIs_marks⟩:=iCauseIs_marks.get (ps:=["self"]) fun _ _ _ _ _ _=>Ny fun _=>rfl;obtain⟨_,F_ThingIs___init__,B_ThingIs___init__⟩:=iThingIs___init__.get (ps:=["self", "name"]) fun _ _ _ _ _ _=>Xm fun _ _=>rfl;obtain⟨_,F_ThingIs_marks,B_ThingIs_marks⟩:=iThingIs_marks.get (ps:=["self"]) fun _ _ _ _ _ _=>Ny fun _=>rfl;obtain⟨_,F_DaysIn___init__,B_DaysIn___init__⟩:=iDaysIn___init__.get (ps:=["self", "first", "last"]) fun _ _ _ _ _ _=>BY fun _ _ _=>rfl;obtain⟨_,F_DaysIn_marks,B_DaysIn_marks⟩:=iDaysIn_marks.get (ps:=["self"]) fun _ _ _ _ _ _=>Ny fun _=>rfl;obtain⟨_,F_Over___init__,B_Over___init__⟩:=iOver___init__.get (ps:=["self", "cents"]) fun _ _ _ _ _ _=>Xm fun _ _=>rfl
 obtain⟨_,F_Over_marks,B_Over_marks⟩:=iOver_marks.get (ps:=["self"]) fun _ _ _ _ _ _=>Ny fun _=>rfl;obtain⟨_,F_Not___init__,B_Not___init__⟩:=iNot___init__.get (ps:=["self", "part"]) fun _ _ _ _ _ _=>Xm fun _ _=>rfl;obtain⟨_,F_Not_marks,B_Not_marks⟩:=iNot_marks.get (ps:=["self"]) fun _ _ _ _ _ _=>Ny fun _=>rfl;obtain⟨_,F_All___init__,B_All___init__⟩:=iAll___init__.get (ps:=["self", "several"]) fun _ _ _ _ _ _=>Xm fun _ _=>rfl;obtain⟨_,F_All_marks,B_All_marks⟩:=iAll_marks.get (ps:=["self"]) fun _ _ _ _ _ _=>Ny fun _=>rfl;obtain⟨_,F_Some___init__,B_Some___init__⟩:=iSome___init__.get (ps:=["self", "several"]) fun _ _ _ _ _ _=>Xm fun _ _=>rfl;obtain⟨_,F_Some_marks,B_Some_marks⟩:=iSome_marks.get (ps:=["self"]) fun _ _ _ _ _ _=>Ny fun _=>rfl;obtain⟨_,F_Deal___init__,B_Deal___init__⟩:=iDeal___init__.get (ps:=["self", "weights"]) fun _ _ _ _ _ _=>Xm fun _ _=>rfl;have F_Cover___init__:=AD (x := "__init__") (qual := "Cover.__init__") (st:=Bw) lCover___init__ cCover___init__ kCover___init__;have B_Cover___init__:Binds K _ ["self", "name", "condition", "clauses", "houses", "waits"] []:=fun s us X hl=>by
  rw[zAT] at hl ⊢
  match us,hl with | [_,_,_,_,_,_],_=>exact BindsTo.of_defaults (fd:=zAV "__init__" "Cover.__init__" (De Bw) (Cs Bw) (An Bw) (.ref dvCover___init__) kVCover___init__ dcCover___init__ pmCover___init__ anCover___init__ cdCover___init__ ctCover___init__) rfl (X _ _ dlCover___init__) rfl rfl rfl
 obtain⟨_,F_Book___init__,B_Book___init__⟩:=iBook___init__.get (ps:=["self", "covers"]) fun _ _ _ _ _ _=>Xm fun _ _=>rfl;have H_Condition_marks:Pm K Ad "marks" fCondition_marks:=⟨a_Condition_marks,iCondition_marks.fn,iCondition_marks.kp⟩;have H_CauseIs_make:Mk K Ai fCauseIs___init__:=⟨q_CauseIs.mi,a_CauseIs___init__,iCauseIs___init__.fn,q_CauseIs.kp⟩;have H_CauseIs_marks:Pm K Ai "marks" fCauseIs_marks:=⟨a_CauseIs_marks,iCauseIs_marks.fn,iCauseIs_marks.kp⟩;have H_ThingIs_make:Mk K Ah fThingIs___init__:=⟨q_ThingIs.mi,a_ThingIs___init__,iThingIs___init__.fn,q_ThingIs.kp⟩;have H_ThingIs_marks:Pm K Ah "marks" fThingIs_marks:=⟨a_ThingIs_marks,iThingIs_marks.fn,iThingIs_marks.kp⟩;have H_DaysIn_make:Mk K Ak fDaysIn___init__:=⟨q_DaysIn.mi,a_DaysIn___init__,iDaysIn___init__.fn,q_DaysIn.kp⟩;have H_DaysIn_marks:Pm K Ak "marks" fDaysIn_marks:=⟨a_DaysIn_marks,iDaysIn_marks.fn,iDaysIn_marks.kp⟩;have H_Over_make:Mk K Aq fOver___init__:=⟨q_Over.mi,a_Over___init__,iOver___init__.fn,q_Over.kp⟩;have H_Over_marks:Pm K Aq "marks" fOver_marks:=⟨a_Over_marks,iOver_marks.fn,iOver_marks.kp⟩;have H_Not_make:Mk K Ax fNot___init__:=⟨q_Not.mi,a_Not___init__,iNot___init__.fn,q_Not.kp⟩;have H_Not_marks:Pm K Ax "marks" fNot_marks:=⟨a_Not_marks,iNot_marks.fn,iNot_marks.kp⟩;have H_All_make:Mk K Aw fAll___init__:=⟨q_All.mi,a_All___init__,iAll___init__.fn,q_All.kp⟩;have H_All_marks:Pm K Aw "marks" fAll_marks:=⟨a_All_marks,iAll_marks.fn,iAll_marks.kp⟩;have H_Some_make:Mk K Ap fSome___init__:=⟨q_Some.mi,a_Some___init__,iSome___init__.fn,q_Some.kp⟩
 have H_Some_marks:Pm K Ap "marks" fSome_marks:=⟨a_Some_marks,iSome_marks.fn,iSome_marks.kp⟩;have H_Deal_make:Mk K Bj fDeal___init__:=⟨q_Deal.mi,a_Deal___init__,iDeal___init__.fn,q_Deal.kp⟩;have H_Cover_make:Mk K Al fCover___init__:=⟨q_Cover.mi,a_Cover___init__,iCover___init__,q_Cover.kp⟩;have H_Book_make:Mk K Az fBook___init__:=⟨q_Book.mi,a_Book___init__,iBook___init__.fn,q_Book.kp⟩;have NCondition:HJ K mg "Condition" Ad:=⟨q_Condition.mi,ni_Condition,q_Condition.kp,zAF X G q_Condition.ns⟩;have L:Kl K mg Ad Ai Ah Ak Aq Ax Aw Ap Bj Al Az:=⟨zAF X G q_Condition.ns,q_Condition.cl,zAF X G q_CauseIs.ns,q_CauseIs.cl,na_CauseIs_name,zAF X G q_ThingIs.ns,q_ThingIs.cl,na_ThingIs_name,zAF X G q_DaysIn.ns,q_DaysIn.cl,na_DaysIn_first,na_DaysIn_last,zAF X G q_Over.ns,q_Over.cl,na_Over_cents,zAF X G q_Not.ns,q_Not.cl,na_Not_part,zAF X G q_All.ns,q_All.cl,na_All_several,zAF X G q_Some.ns,q_Some.cl,na_Some_several,zAF X G q_Deal.ns,q_Deal.cl,na_Deal_wheel,na_Deal_weights,zAF X G q_Cover.ns,q_Cover.cl,na_Cover_name,na_Cover_condition,na_Cover_clauses,na_Cover_houses,na_Cover_deal,na_Cover_waits,zAF X G q_Book.ns,q_Book.cl,na_Book_covers,na_Book_asking,nd_C⟩;have T:Txt K mg:=⟨⟨tk_ANY_OTHER,zAF X G z_ANY_OTHER⟩,⟨tk_COVERED_ONE,zAF X G z_COVERED_ONE⟩,⟨tk_LAST_DAY,zAF X G z_LAST_DAY⟩,⟨tk_LETTERS,zAF X G z_LETTERS⟩,⟨tk_LONGEST_NAME,zAF X G z_LONGEST_NAME⟩,⟨tk_MOST_CELLS,zAF X G z_MOST_CELLS⟩,⟨tk_MOST_CLAUSES,zAF X G z_MOST_CLAUSES⟩,⟨tk_MOST_COVERS,zAF X G z_MOST_COVERS⟩,⟨tk_MOST_PLACES,zAF X G z_MOST_PLACES⟩,⟨tk_MOST_TURNS,zAF X G z_MOST_TURNS⟩,zAN X G z_bool,zAN X G z_enumerate,zAN X G z_int,zAN X G z_isinstance,zAN X G z_len,zAN X G z_list,zAN X G z_max,zAN X G z_range,zAN X G z_set,zAN X G z_sorted,zAN X G z_str,zAN X G z_sum,zAN X G z_tuple,zAN X G z_zip⟩
 refine⟨zAV "law" "law" (De Pj) (Cs Pj) (An Pj) .none kV37 dc37 pm37 an37 cd37 ct37,fun s v=>.of_eq rfl,fun base _ _=>?_⟩;have C_law_cell:Ct l.prog w K mg base 1 "_law_cell" ["_law_script", "_law_k"] (Nj K):=D__law_cell.cal fun f fd F=>Tu F T;have C_law_spread:Ct l.prog w K mg base 1 "_law_spread" ["_law_cell_here"] La:=D__law_spread.cal fun f fd F=>Qk F T;have C_law_unit:Ct l.prog w K mg base 2 "_law_unit" ["_law_script"] (Yz K):=D__law_unit.cal fun f fd F=>Uv F T C_law_cell C_law_spread;have C_law_names:Ct l.prog w K mg base 1 "_law_names" ["_law_cell_here", "_law_many"] Tg:=D__law_names.cal fun f fd F=>Rf F T;have C_law_amount:Ct l.prog w K mg base 1 "_law_amount" ["_law_digit", "_law_unit_here"] N0:=D__law_amount.cal fun f fd F=>Pg F T;have C_law_cond:Ct l.prog w K mg base 2 "_law_cond" ["_law_cell_here", "_law_things", "_law_causes", "_law_unit_here"] Yw:=D__law_cond.cal fun f fd F=>Uk F T C_law_amount;have KCauseIs:Gr l.prog w K mg base 1 "CauseIs" Ai ["self", "name"] (Iq Ai "name"):=⟨_,_,H_CauseIs_make,Ka F_CauseIs___init__ L,B_CauseIs___init__,L.mg_CauseIs⟩;have KThingIs:Gr l.prog w K mg base 1 "ThingIs" Ah ["self", "name"] (Iq Ah "name"):=⟨_,_,H_ThingIs_make,Jz F_ThingIs___init__ L,B_ThingIs___init__,L.mg_ThingIs⟩;have KDaysIn:Gr l.prog w K mg base 1 "DaysIn" Ak ["self", "first", "last"] (P9 Ak):=⟨_,_,H_DaysIn_make,Kz F_DaysIn___init__ L,B_DaysIn___init__,L.mg_DaysIn⟩;have KOver:Gr l.prog w K mg base 1 "Over" Aq ["self", "cents"] (Iq Aq "cents"):=⟨_,_,H_Over_make,Mp F_Over___init__ L,B_Over___init__,L.mg_Over⟩
 have KNot:Gr l.prog w K mg base 1 "Not" Ax ["self", "part"] (Iq Ax "part"):=⟨_,_,H_Not_make,Ot F_Not___init__ L,B_Not___init__,L.mg_Not⟩;have KAll:Gr l.prog w K mg base 1 "All" Aw ["self", "several"] (Si Aw):=⟨_,_,H_All_make,Om F_All___init__ T L,B_All___init__,L.mg_All⟩;have KSome:Gr l.prog w K mg base 1 "Some" Ap ["self", "several"] (Si Ap):=⟨_,_,H_Some_make,Na F_Some___init__ T L,B_Some___init__,L.mg_Some⟩;have C_law_condition:∀ m,Ct l.prog w K mg base (m+2) "_law_condition" ["_law_cond_here"] (B6 (A8.mk Ad Ai Ah Ak Aq Ax Aw Ap) m):=by
  intro m
  induction m with
  | zero=>
   refine D__law_condition.cal fun f fd F=>W7 fun _ _ _ _ z=>?_;obtain⟨_,_,_,_,z,_⟩:=z;exact zBc _ z
  | succ m ih=>exact D__law_condition.cal fun f fd F=>Lc F L ih NCondition KCauseIs KThingIs KDaysIn KOver KNot KAll KSome
 have Chas_letters_alone:Ct l.prog w K mg base 1 "has_letters_alone" ["text"] R9:=D_has_letters_alone.cal fun f fd F=>Iu F T;have Cis_name:Ct l.prog w K mg base 2 "is_name" ["thing"] (To K):=D_is_name.cal fun f fd F=>Zl F T Chas_letters_alone;have Ccheck_houses:Ct l.prog w K mg base 3 "check_houses" ["houses"] U0:=D_check_houses.cal fun f fd F=>Oi F T Cis_name;have Cis_whole:Ct l.prog w K mg base 1 "is_whole" ["thing"] (Ft K):=D_is_whole.cal fun f fd F=>Vu F T;have Care_weights:Ct l.prog w K mg base 2 "are_weights" ["thing"] R1:=D_are_weights.cal fun f fd F=>Pi F T Cis_whole;have Cmay_have:Ct l.prog w K mg base 1 "may_have" ["weight", "dealt", "total", "turn"] Zk:=D_may_have.cal fun f fd F=>Wj F T;have Cdue_by:Ct l.prog w K mg base 1 "due_by" ["weight", "dealt", "total"] Zm:=D_due_by.cal fun f fd F=>G7 F T;have Cplace_of_turn:Ct l.prog w K mg base 2 "place_of_turn" ["weights", "dealt", "turn"] O4:=D_place_of_turn.cal fun f fd F=>Mq F T Cmay_have Cdue_by;have Cturns:Ct l.prog w K mg base 3 "turns" ["weights"] Q0:=D_turns.cal fun f fd F=>Q6 F T Care_weights Cplace_of_turn;have KDeal:Gr l.prog w K mg base 4 "Deal" Bj ["self", "weights"] (V8 Bj):=⟨_,_,H_Deal_make,Mj F_Deal___init__ T L Cturns,B_Deal___init__,L.mg_Deal⟩;have KCover:Gr l.prog w K mg base 6 "Cover" Al ["self", "name", "condition", "clauses", "houses", "waits"] (Xt Al):=⟨_,_,H_Cover_make,Le F_Cover___init__ T L Cis_name Ccheck_houses KDeal,B_Cover___init__,L.mg_Cover⟩;have KBook:Gr l.prog w K mg base 1 "Book" Az ["self", "covers"] (Zn Al Az):=⟨_,_,H_Book_make,Mw F_Book___init__ T L,B_Book___init__,L.mg_Book⟩
 have C_law_marks:∀ m,Ct l.prog w K mg base (m+1) "_law_marks" ["_law_cond_here"] (O9 m):=by
  intro m
  induction m with
  | zero=>
   refine D__law_marks.cal fun f fd F=>W7 fun _ _ _ _ z=>?_;obtain⟨_,_,_,_,z,_⟩:=z;exact zBc _ z
  | succ m ih=>exact D__law_marks.cal fun f fd F=>Ri F ih
 have C_law_named:Ct l.prog w K mg base 5 "_law_named" ["_law_conds", "_law_word"] (Up K):=D__law_named.cal fun f fd F=>Rr F T (C_law_marks 3);have C_law_bound:Ct l.prog w K mg base 2 "_law_bound" ["_law_script", "_law_amounts", "_law_unit_here"] (EF K):=D__law_bound.cal fun f fd F=>Sb F T C_law_cell;have Cmarked:Ct l.prog w K mg base 1 "marked" ["marks", "sort"] Pf:=D_marked.cal fun f fd F=>G6 F T;have Mmarks:∀ m,R8 l.prog w K mg base (2*m) (A8.Fam (A8.mk Ad Ai Ah Ak Aq Ax Aw Ap)) "marks" ["self"] (Dt (A8.mk Ad Ai Ah Ak Aq Ax Aw Ap) m):=by
  intro m
  induction m with
  | zero=>
   refine⟨fun C hC=>?_⟩;rcases hC with rfl | rfl | rfl | rfl | rfl | rfl | rfl | rfl
   ·exact⟨⟨_,_,W7 fun _ _ _ _=>Ew,B_Condition_marks,H_Condition_marks⟩,L.cl_Condition⟩
   ·exact⟨⟨_,_,W7 fun _ _ _ _=>Ew,B_CauseIs_marks,H_CauseIs_marks⟩,L.cl_CauseIs⟩
   ·exact⟨⟨_,_,W7 fun _ _ _ _=>Ew,B_ThingIs_marks,H_ThingIs_marks⟩,L.cl_ThingIs⟩
   ·exact⟨⟨_,_,W7 fun _ _ _ _=>Ew,B_DaysIn_marks,H_DaysIn_marks⟩,L.cl_DaysIn⟩
   ·exact⟨⟨_,_,W7 fun _ _ _ _=>Ew,B_Over_marks,H_Over_marks⟩,L.cl_Over⟩
   ·exact⟨⟨_,_,W7 fun _ _ _ _=>Ew,B_Not_marks,H_Not_marks⟩,L.cl_Not⟩
   ·exact⟨⟨_,_,W7 fun _ _ _ _=>Ew,B_All_marks,H_All_marks⟩,L.cl_All⟩
   ·exact⟨⟨_,_,W7 fun _ _ _ _=>Ew,B_Some_marks,H_Some_marks⟩,L.cl_Some⟩
  | succ m ih=>
   have Cmarks_with:Ct l.prog w K mg base (2*m+1) "marks_with" ["several"] (Z3 (A8.mk Ad Ai Ah Ak Aq Ax Aw Ap) m):=D_marks_with.cal fun f fd F=>Se F ih;refine⟨fun C hC=>?_⟩;have m1:1<=2*(m+1):=by omega
   rcases hC with rfl | rfl | rfl | rfl | rfl | rfl | rfl | rfl
   ·exact⟨⟨_,_,(Kr F_Condition_marks L).mono m1,B_Condition_marks,H_Condition_marks⟩,L.cl_Condition⟩
   ·exact⟨⟨_,_,(Nf F_CauseIs_marks L).mono m1,B_CauseIs_marks,H_CauseIs_marks⟩,L.cl_CauseIs⟩
   ·exact⟨⟨_,_,(Ng F_ThingIs_marks L).mono m1,B_ThingIs_marks,H_ThingIs_marks⟩,L.cl_ThingIs⟩
   ·exact⟨⟨_,_,(On F_DaysIn_marks L).mono m1,B_DaysIn_marks,H_DaysIn_marks⟩,L.cl_DaysIn⟩
   ·exact⟨⟨_,_,(Rl F_Over_marks L).mono m1,B_Over_marks,H_Over_marks⟩,L.cl_Over⟩
   ·exact⟨⟨_,_,Uf F_Not_marks L ih,B_Not_marks,H_Not_marks⟩,L.cl_Not⟩
   ·exact⟨⟨_,_,Tr F_All_marks L Cmarks_with,B_All_marks,H_All_marks⟩,L.cl_All⟩
   ·exact⟨⟨_,_,Ru F_Some_marks L Cmarks_with,B_Some_marks,H_Some_marks⟩,L.cl_Some⟩
 have Cmarks_of:Ct l.prog w K mg base 9 "marks_of" ["book"] (Fv (A8.mk Ad Ai Ah Ak Aq Ax Aw Ap) Al Az):=D_marks_of.cal fun f fd F=>Vz F T L Cmarked (Mmarks 4);have C_law_whole:Ct l.prog w K mg base 1 "_law_whole" ["_law_found"] (Ft K):=D__law_whole.cal fun f fd F=>Rh F T;have C_law_list:Ct l.prog w K mg base 2 "_law_list" ["_law_found", "_law_due", "_law_text"] V6:=D__law_list.cal fun f fd F=>Th F T C_law_whole;have C_law_told_marks:Ct l.prog w K mg base 3 "_law_told_marks" ["_law_told", "_law_marks_here"] Yi:=D__law_told_marks.cal fun f fd F=>Kt F T C_law_list;have Cday_stretches:Ct l.prog w K mg base 1 "day_stretches" ["days"] Yb:=D_day_stretches.cal fun f fd F=>Nl F T;have Ccells_of:Ct l.prog w K mg base 10 "cells_of" ["book"] (Ua (A8.mk Ad Ai Ah Ak Aq Ax Aw Ap) Al Az):=D_cells_of.cal fun f fd F=>Wu F T Cmarks_of Cday_stretches;have Cstretches_of:Ct l.prog w K mg base 10 "stretches_of" ["book", "bound"] (R4 (A8.mk Ad Ai Ah Ak Aq Ax Aw Ap) Al Az):=D_stretches_of.cal fun f fd F=>Og F T Cmarks_of;have C_law_cell_right:Ct l.prog w K mg base 2 "_law_cell_right" ["_law_cell_here", "_law_cause", "_law_thing", "_law_day", "_law_days"] EE:=D__law_cell_right.cal fun f fd F=>Kw F T C_law_whole;have C_law_cells_right:Ct l.prog w K mg base 3 "_law_cells_right" ["_law_cells", "_law_marks_here"] P7:=D__law_cells_right.cal fun f fd F=>Jt F T C_law_cell_right;have C_law_stretches_right:Ct l.prog w K mg base 2 "_law_stretches_right" ["_law_found", "_law_bound_here", "_law_amounts"] DG:=D__law_stretches_right.cal fun f fd F=>Hi F T C_law_whole
 have Cname_at:Ct l.prog w K mg base 1 "name_at" ["place"] V2:=D_name_at.cal fun f fd F=>Yn F T;have Canother:Ct l.prog w K mg base 2 "another" ["names"] Hg:=D_another.cal fun f fd F=>Xp F T Cname_at;have C_law_other:Ct l.prog w K mg base 1 "_law_other" ["_law_names_here"] Pb:=D__law_other.cal fun f fd F=>Sc F T;have Closs_in:Ct l.prog w K mg base 10 "loss_in" ["book", "cell", "cents"] (Qz (A8.mk Ad Ai Ah Ak Aq Ax Aw Ap) Al Az):=D_loss_in.cal fun f fd F=>Zb F T Cmarks_of Canother;have C_law_loss_right:Ct l.prog w K mg base 11 "_law_loss_right" ["_law_book", "_law_cell_here", "_law_cents", "_law_marks_here"] (CF (A8.mk Ad Ai Ah Ak Aq Ax Aw Ap) Al Az):=D__law_loss_right.cal fun f fd F=>Ky F T C_law_whole C_law_other Closs_in;have C_law_once:Ct l.prog w K mg base 1 "_law_once" ["_law_cells", "_law_marks_here", "_law_drawn", "_law_things", "_law_causes"] Yu:=D__law_once.cal fun f fd F=>Ul F T;exact DE F37 T L C_law_cell C_law_spread C_law_unit C_law_names C_law_cond (C_law_condition 3) KCover KBook C_law_named C_law_bound Cmarks_of C_law_told_marks Ccells_of Cstretches_of C_law_cells_right C_law_stretches_right Canother C_law_other C_law_loss_right C_law_once
theorem walk {l:PySem.W.OpenLaw} {q:Program} {loose:List Str} {XP:(Str->Option Value)->Heap->Prop} {YP:World->Heap->Prop} {d:DefRec} {K:Params->zAb} (hn:l.most=some 63) (hdf:d.params.defaults=[])
  (hY:∀ (w:World) (h:Heap),YP w h->(K w.params).In h)
  (F:∀ (w:World) (mg:Str->Option Value) (fa:Addr) (h:Heap),(K w.params).In h->h.Ns zCu mg->mg d.name=some (.ref fa) ->
   ∃ fd:zCt,(∀ (s:Shared) (u:Value),BindsTo s fd ⟨[u],[]⟩ [("_law_script",u)])/\∀ base:Heap,(K w.params).In base->base.Ns zCu mg->FnOk l.prog w (K w.params) mg base Dv 12 fa fd ["_law_script"] (B8 (K w.params))) :
  PySem.W.WalkO q loose XP YP l.row.toRowW d [] (fun f vs=>PySem.call f vs):=
 L2.walk_of (n:=63) (k:=12) (x := "_law_script") (CX:=fun _=>Dv) (sp:=fun w=>B8 (K w.params)) hn (by decide) hdf ⟨rfl,by decide,by decide⟩ hY F (fun _ _ a ns hl _ hS=>⟨a,ns,rfl,hS,hl,fun _=>rfl⟩) fun _ _ _ _ _ z=>z
end CRL
open PySem PySem.W PyProof.Rows
namespace PySem.W.Fast
def tw8287941913574395649:=0
def tw9263122602614766600:=0
def tw13621828465772035545:=0
def tw17447062001158547027:=0
def tw10048302133396552577:=0
def tw12572196477104713239:=0
def tw9043181026336023162:=0
def tw12299029640330474650:=0
def tw8319042772027584312:=0
def tw3952553119041677515:=0
def tw4869332331375754187:=0
def tw7685237683227213742:=0
def tw14494191983333564441:=0
def tw11290991099806765838:=0
def tw11553698775604586428:=0
def tw15277361214792477766:=0
def tw5014595626941905182:=0
def tw9701670438495005514:=0
def tw9705615146919645083:=0
def tw14144879467302728103:=0
def tw3174330374815557429:=0
def tw4652223239687141720:=0
def tw8241793367663228198:=0
def tw7006842308232402895:=0
def tw8159546058026727579:=0
def tw5956237499535549686:=0
def tw6998585026155950468:=0
def tw9587668929798956538:=0
def tw8747461271897541491:=0
def tw672240496898494417:=0
def tw5176305999887486605:=0
def tw9621884138158402994:=0
def tw3364849045854534435:=0
def tw5131708598772041893:=0
def tw7640756206790299953:=0
def tw3618541110285233014:=0
def tw13376465736073478573:=0
def tw12046778413271484322:=0
def tw14840384689087636816:=0
def tw7465928182851315952:=0
def tw1047620568976516548:=0
def tw14437061402084399946:=0
def tw10653965648398560210:=0
def tw5208070013666851032:=0
def tw5432806584058540050:=0
def tw9521072688074493532:=0
def tw2568815041540486145:=0
def tw13039185197019377091:=0
def tw5944240854520195385:=0
def tw15153987469804677995:=0
def tw981180348902782847:=0
def tw11262812846820870380:=0
def tw2730364498582260685:=0
def tw4541471803029626242:=0
def tw8113183916372904861:=0
def tw5310897416535992826:=0
def tw249524173595995183:=0
def tw3012181629441557546:=0
def tw12078976515716626396:=0
def tw6515122317170898337:=0
def tw16772857003700629000:=0
def tw3851543816654321303:=0
def tw12297488981382186604:=0
def tw14160829750027474163:=0
def tw1994153411516642733:=0
def tw14163497605437933539:=0
def tw12966203807415398101:=0
def tw98921464849854176:=0
def tw1991728660433059882:=0
def tw6397769217420262152:=0
def tw5263519783995788397:=0
def tw9093021776767337465:=0
def tw10025480702239342181:=0
def tw13274149010272093838:=0
def tw2425538665518062554:=0
def tw9492569487498574567:=0
def tw7119731711384026580:=0
def tw18309474099742989223:=0
def tw4220474030733293086:=0
def tw7826113197063135910:=0
def tw7908456163402898774:=0
def tw4191101392908970771:=0
def tw15918278413642431691:=0
def tw4233341133751443120:=0
def tw16171204362573548565:=0
def tw3501084401585709613:=0
def tw8707177738780041051:=0
def tw10226272213624777276:=0
def tw6560859687669694868:=0
def tw13392283020473555915:=0
def tw6657320917796920000:=0
def tw14934901571221040031:=0
def tw16225338251891876698:=0
def tw15008009813241874628:=0
def tw15295291489883909502:=0
def tw14305514869975677752:=0
def tw15577637171800947261:=0
def tw13483419329741188467:=0
def tw5629792040312722913:=0
def tw14200200440422047510:=0
def tw2811401582273062636:=0
def tw896338391508848447:=0
def tw10128434057112275291:=0
def tw11282472168352645521:=0
def tw1514709318889360129:=0
def tw18128902337860485690:=0
def tw507842079975663472:=0
def tw8548825603431519841:=0
def tw13356644972270517694:=0
def tw17708055021970287294:=0
def tw5295484353281839899:=0
def tw3640419137692614210:=0
def tw13089809915714893007:=0
def tw8604460476667442625:=0
def tw12280098191299681703:=0
def tw131894428500509831:=0
def tw5009613807849645359:=0
def tw4770338201072883796:=0
def tw6924754424690481273:=0
def tw2718363589425107644:=0
def tw7467315450786603950:=0
def tw9905594215218315362:=0
def tw2973766607340630145:=0
def tw13041490134719505733:=0
def tw743033487640688062:=0
def tw13475611056834264625:=0
def tw17662483548035700363:=0
def tw4691662574203897184:=0
def tw7546649493057895107:=0
def tw2166296339620733979:=0
def tw2351585956897101777:=0
def tw3442362490869577868:=0
def tw13215838745223331293:=0
def tw13853058511728376862:=0
def tw7140501863411834758:=0
def tw13930218070509234275:=0
def tw1107360719624490980:=0
def tw6423970200190390001:=0
def tw10042966118576790923:=0
def tw6936314136047306531:=0
def tw9028150080364943055:=0
def tw12784485297031498645:=0
def tw1600566857174618567:=0
def tw1514513505838137007:=0
def tw1802743776787245369:=0
def tw1129743372076311070:=0
def tw303311452692444915:=0
def tw11353816928796911379:=0
def tw2262693310124674753:=0
def tw16916489995742876248:=0
def tw16539077469477084977:=0
def tw14367551173995162895:=0
def tw3792183671111716209:=0
def tw7751544869375028712:=0
def tw16534949417181564685:=0
def tw1234728133704476962:=0
def tw11255415334045380766:=0
def tw7841532955363931971:=0
def tw6656975988454972987:=0
def tw681074377726358187:=0
def tw14251504443194134254:=0
def tw5357294073059414654:=0
def tw3081988965701014062:=0
def tw16992348334592001820:=0
def tw11115118035978518074:=0
def tw4068866265029430342:=0
def tw557849787979184757:=0
def tw5020624130866665295:=0
def tw17289819038799603900:=0
def tw16481309187437223222:=0
def tw5026087024147728749:=0
def tw6577887813408003725:=0
def tw17170809956133004872:=0
def tw10733991146737100941:=0
def tw9793825805862816125:=0
def tw3700938306346431095:=0
def tw14829739013740793404:=0
def tw13920607846899084610:=0
def tw4512115438330673935:=0
def tw439633422474608463:=0
def tw13848292143058025766:=0
def tw3678570131084188769:=0
def tw5905193880825420781:=0
def tw18311366393299684223:=0
def tw4601766656171473576:=0
def tw10200930569344343948:=0
def tw17748742997476274967:=0
def tw9681308123087745541:=0
def tw3008145969040098934:=0
def tw6216545242482264094:=0
def tw4717406170979554679:=0
def tw4829929334821709955:=0
def tw14030785812749100434:=0
def tw15295266896578341708:=0
def tw4213344574301273895:=0
def tw1111575956020510823:=0
def tw18090589680201126846:=0
def tw12862981050514942700:=0
def tw11822828357307972803:=0
def tw17496149394860246474:=0
def tw13025188399139428263:=0
def tw12644059411412001389:=0
def tw11877810514826464052:=0
def tw10402844001942442048:=0
def tw17213800777954224904:=0
def tw6034591347494875822:=0
def tw14490926711420897505:=0
def tw944760406007385399:=0
def tw9955789651987491734:=0
def tw12300511639467257596:=0
def tw6356509831219061012:=0
def tw15685943282224485089:=0
def tw2245002743002339589:=0
def tw11448070613889364965:=0
def tw9853034013413349031:=0
def tw8310436006011353544:=0
def tw437623909549454431:=0
def tw16591031601040020499:=0
def tw13220618400626956110:=0
def tw10577597465387277819:=0
def tw17466824525777113282:=0
def tw14370647127010495860:=0
def tw14257437288642660078:=0
def tw11979209524205916680:=0
def tw8161976871463818686:=0
def tw10969718354133640874:=0
def tw4902134225967654996:=0
def tw2801333910136459038:=0
def tw5082988856752178845:=0
def tw4954154184859333888:=0
def tw12738889784698016018:=0
def tw7382951792298287272:=0
def tw6358424109878478169:=0
def tw4085023336579444619:=0
def tw10373974769080058778:=0
def tw2036481579692490989:=0
def tw815421870403086847:=0
def tw18402477524320259633:=0
def tw9739024856020890884:=0
def tw7914959676333526893:=0
def tw5156888706338856170:=0
def tw2996264029184830845:=0
def tw15972104266343721752:=0
def tw10771205802045383690:=0
def tw10054954550984174371:=0
def tw7316754870907321372:=0
def tw4009261071426519222:=0
def tw10541568470223090464:=0
def tw2428018758219982350:=0
def tw7399509436137620830:=0
def tw4810999071102842554:=0
def tw18030699210086787282:=0
def tw14858154312921083879:=0
def tw16709164108273952230:=0
def tw10120396090851679856:=0
def tw14346046958075009620:=0
def tw3122108308448490565:=0
def tw7562599723362577934:=0
def tw14385316576729826372:=0
def tw16483967671774440307:=0
def tw18127885301615818553:=0
def tw1148395458698608490:=0
def tw6669683053758038902:=0
def tw12267904012373113056:=0
def tw14872381201511715807:=0
def tw14634403853491564333:=0
def tw6938286009404368065:=0
def tw4884510780254475727:=0
def tw3994819285900469833:=0
def tw2156787907786058221:=0
def tw1548429200109780670:=0
def tw1333044976366311404:=0
def tw12609835866313844062:=0
def tw12111289896101597463:=0
def tw11881293886345509977:=0
def tw11644778677852094394:=0
def tw8803537371181407455:=0
def tw13263575108099572798:=0
def tw10118436212176171569:=0
def tw16528000260593702801:=0
def tw11977885520509554488:=0
def tw7525704464111185846:=0
def tw15401449086544690892:=0
def tw15344850413462418398:=0
def tw9407849664951838907:=0
def tw10858969313883197494:=0
def tw690276998321969148:=0
def tw2395179235562924072:=0
def tw13227208166601601284:=0
def tw17875103376855518706:=0
def tw689984560291128051:=0
def tw6574869016488434035:=0
def tw15260214401071980599:=0
def tw15503577819889377614:=0
def tw12342357187442560204:=0
def tw13215605359111192121:=0
def tw195079023195376969:=0
def tw15353941668294385459:=0
def tw11243522333906034837:=0
def tw7397546260492983929:=0
def tw15653145368393380725:=0
def tw9149508697611648250:=0
def tw8195600842206042850:=0
def tw3653410564433617068:=0
def tw7976368635132613383:=0
def tw6093389421201709496:=0
def tw5743214099801723147:=0
def tw2126981974365033137:=0
def tw17074447646022974237:=0
def tw7513247352166128509:=0
def tw4409094838604262075:=0
def tw9802601920410185344:=0
def tw11019760489483369664:=0
def tw1671812390422453240:=0
def tw14677687289464410519:=0
def tw6210990638043838431:=0
def tw10605319471252502694:=0
def tw7267716833382550483:=0
def tw719714899771342581:=0
def tw15621312171908426506:=0
def tw6092843919491268955:=0
def tw7130321172808203276:=0
def tw18393241616416629184:=0
def tw4931609811215220726:=0
def tw16723581343900521602:=0
def tw9600422686849728704:=0
def tw6769947255626480952:=0
def tw4434165808248562085:=0
def tw367432395728690759:=0
def tw16932594818784577278:=0
def tw13186319085536288195:=0
def tw17745862016664254314:=0
def tw14894478045116985782:=0
def tw5426044385932678463:=0
def tw12772328096771131603:=0
def tw3733575662200988757:=0
def tw18437105092546060605:=0
def tw16712282825201251664:=0
def tw12017955968938419129:=0
def tw10940267320594031250:=0
def tw13451579583391477571:=0
def tw6781034437710039806:=0
def tw16217641851615203510:=0
def tw8221917055091461678:=0
def tw5562793607383079795:=0
def tw2001184136888249227:=0
def tw15885110864849565440:=0
def tw955496229725425507:=0
def tw6683124573939134668:=0
def tw4734987973862915587:=0
def tw4695902279249257186:=0
def tw2509004969871637734:=0
def tw2087410864905617350:=0
def tw18141948862155048588:=0
def tw15075866354718378368:=0
def tw9685875698231999668:=0
def tw9763408741307814753:=0
def tw9752609129619873281:=0
def tw9670403541797211778:=0
def tw9184042920115811358:=0
def tw8692482322488513625:=0
def tw8351974820689517285:=0
def tw658297624785101776:=0
def tw587318414635016198:=0
def tw3675012871687673394:=0
def tw3456890961839779099:=0
def tw3156181930048788447:=0
def tw2397073399843392995:=0
def tw17750085554639426562:=0
def tw17144249595907000000:=0
def tw15754563831959007330:=0
def tw15277523424143435558:=0
def tw13522010266655431455:=0
def tw12728034319459165585:=0
def tw12009900667162573329:=0
def tw10127806123557755280:=0
def tw8691305050039699209:=0
def tw3922802534569966690:=0
def tw989299059823988729:=0
def tw16208888958373934188:=0
def tw15607789469645997550:=0
def tw14486533837675337884:=0
def tw1268083497720779971:=0
def tw11121188529446221773:=0
def tw16226726170790699980:=0
def tw4038663394331539353:=0
def tw9891100045896805063:=0
def tw6784572371174741410:=0
def tw15729991203715773664:=0
def tw15046333045885709432:=0
def tw7606908068159872272:=0
def tw14836770084471697411:=0
def tw9562129771883816415:=0
def tw7676689195396045677:=0
def tw7388491241453221661:=0
def tw7345203762344646179:=0
def tw17358817039247146471:=0
def tw6833213287537203244:=0
def tw4561791885573662505:=0
def tw8822802436204742263:=0
def tw8774333115632795002:=0
def tw8182893580768866526:=0
def tw8018575394575199038:=0
def tw7054381709661441969:=0
def tw6248605358323102862:=0
def tw6123023532746743557:=0
def tw60381030854413484:=0
def tw521843647216973025:=0
def tw3231186401970878568:=0
def tw2008154655113677687:=0
def tw18200698692240819704:=0
def tw17463323255382676914:=0
def tw17155901128043633435:=0
def tw16653912072741942817:=0
def tw16399151898291259108:=0
def tw16339915307742815352:=0
def tw16265682972647599390:=0
def tw1619916597328051230:=0
def tw14467832676059770217:=0
def tw1435857433524125236:=0
def tw14336401914292053710:=0
def tw13620699979995783872:=0
def tw12915818364081693380:=0
def tw124494193498924690:=0
def tw11347949123449692452:=0
def tw10323551179609238840:=0
def tw17591757559420067243:=0
def tw16517745159211954602:=0
def tw8254532833719791401:=0
def tw13789678763117197374:=0
def tw4487430771495675820:=0
def tw106441630451375522:=0
def tw15900910853074509638:=0
def tw17406088183310302136:=0
def tw9385255940274603564:=0
def tw7478890567847599495:=0
def tw15987423273298267695:=0
def tw9938004340489207961:=0
def tw9480087742361146516:=0
def tw9471308089311293416:=0
def tw824990105661508003:=0
def tw7743094512134032955:=0
def tw6056161675919896649:=0
def tw3411828738707630953:=0
def tw200242971393877838:=0
def tw17425894601292699861:=0
def tw17288323708109139863:=0
def tw16767206638890108905:=0
def tw16023396257895351379:=0
def tw15735083364423771902:=0
def tw1375259108199475411:=0
def tw13163980635350384482:=0
def tw12580953480077140585:=0
def tw9166665501621919318:=0
def tw7066260074322191433:=0
def tw17310045583191065756:=0
def tw10202992895585134589:=0
def tw1973090432632787656:=0
def tw11951660240771117139:=0
def tw1133123450723579732:=0
def tw12837069336902576932:=0
def tw15500333345008207799:=0
def tw16557008815347437622:=0
def tw14421914086835918815:=0
def tw92115525081283134:=0
def tw5131273220822929:=0
def tw137831594756897068:=0
def tw8912495272450140664:=0
end PySem.W.Fast
set_option tactic.hygienic true in
set_option maxRecDepth 100000 in
set_option maxHeartbeats 0 in
theorem PySem.Challenge.cw_coverroll_k81_all_kinds_parted_holds : PySem.Challenge.rw_coverroll_k81_all_kinds_parted.Holds := by
 w_on; o_law; k_head; (case hw=>w_witness2)
 k_fill
 refine CRL.walk (l:=PySem.Challenge.rw_coverroll_k81_all_kinds_parted) rfl rfl (fun w h Y=>PySem.W.kIn_of Y) ?F
 case F=>
  intro w mg fa h KX G hmg
  refine' CRL.all_mk KX G hmg ?d0 ?d1 ?d2 ?d3 ?d4 ?d5 ?d6 ?d7 ?d8 ?d9 ?d10 ?d11 ?d12 ?d13 ?d14 ?d15 ?d16 ?d17 ?d18 ?d19 ?d20 ?d21 ?d22 ?d23 ?d24 ?d25 ?d26 ?d27 ?d28 ?d29 ?d30 ?d31 ?d32 ?d33 ?d34 ?d35 ?d36 ?d37 ?q_Condition ?q_CauseIs ?na_CauseIs_name ?q_ThingIs ?na_ThingIs_name ?q_DaysIn ?na_DaysIn_first ?na_DaysIn_last ?q_Over ?na_Over_cents ?q_Not ?na_Not_part ?q_All ?na_All_several ?q_Some ?na_Some_several ?q_Deal ?na_Deal_wheel ?na_Deal_weights ?q_Cover ?na_Cover_name ?na_Cover_condition ?na_Cover_clauses ?na_Cover_houses ?na_Cover_deal ?na_Cover_waits ?q_Book ?na_Book_covers ?na_Book_asking ?nd_C ?a_Condition_marks ?iCondition_marks ?a_CauseIs___init__ ?iCauseIs___init__ ?a_CauseIs_marks ?iCauseIs_marks ?a_ThingIs___init__ ?iThingIs___init__ ?a_ThingIs_marks ?iThingIs_marks ?a_DaysIn___init__ ?iDaysIn___init__ ?a_DaysIn_marks ?iDaysIn_marks ?a_Over___init__ ?iOver___init__ ?a_Over_marks ?iOver_marks ?a_Not___init__ ?iNot___init__ ?a_Not_marks ?iNot_marks ?a_All___init__ ?iAll___init__ ?a_All_marks ?iAll_marks ?a_Some___init__ ?iSome___init__ ?a_Some_marks ?iSome_marks ?a_Deal___init__ ?iDeal___init__ ?a_Cover___init__ ?iCover___init__ ?lCover___init__ ?cCover___init__ ?kCover___init__ ?dlCover___init__ ?a_Book___init__ ?iBook___init__ ?ni_Condition ?z_ANY_OTHER ?z_COVERED_ONE ?z_LAST_DAY ?z_LETTERS ?z_LONGEST_NAME ?z_MOST_CELLS ?z_MOST_CLAUSES ?z_MOST_COVERS ?z_MOST_PLACES ?z_MOST_TURNS ?z_bool ?z_enumerate ?z_int ?z_isinstance ?z_len ?z_list ?z_max ?z_range ?z_set ?z_sorted ?z_str ?z_sum ?z_tuple ?z_zip
  (case q_Condition|q_CauseIs|q_ThingIs|q_DaysIn|q_Over|q_Not|q_All|q_Some|q_Deal|q_Cover|q_Book => (constructor <;> k_is))
  (case na_CauseIs_name|na_ThingIs_name|na_DaysIn_first|na_DaysIn_last|na_Over_cents|na_Not_part|na_All_several|na_Some_several|na_Deal_wheel|na_Deal_weights|na_Cover_name|na_Cover_condition|na_Cover_clauses|na_Cover_houses|na_Cover_deal|na_Cover_waits|na_Book_covers|na_Book_asking|a_Condition_marks|a_CauseIs___init__|a_CauseIs_marks|a_ThingIs___init__|a_ThingIs_marks|a_DaysIn___init__|a_DaysIn_marks|a_Over___init__|a_Over_marks|a_Not___init__|a_Not_marks|a_All___init__|a_All_marks|a_Some___init__|a_Some_marks|a_Deal___init__|a_Cover___init__|iCover___init__|lCover___init__|cCover___init__|kCover___init__|dlCover___init__|a_Book___init__|ni_Condition|z_ANY_OTHER|z_COVERED_ONE|z_LAST_DAY|z_LETTERS|z_LONGEST_NAME|z_MOST_CELLS|z_MOST_CLAUSES|z_MOST_COVERS|z_MOST_PLACES|z_MOST_TURNS|z_bool|z_enumerate|z_int|z_isinstance|z_len|z_list|z_max|z_range => k_is)
  (case z_set|z_sorted|z_str|z_sum|z_tuple|z_zip => k_is)
  (case d0|d1|d2|d3|d4|d5|d6|d7|d8|d9|d10|d11|d12|d13|d14|d15|d16|d17|d18|d19|d20|d21|d22|d23|d24|d25|d26|d27|d28|d29|d30|d31|d32|d33|d34|d35|d36|d37 => (apply L2.DfIn.of <;> k_is))
  (case iCondition_marks|iCauseIs___init__|iCauseIs_marks|iThingIs___init__|iThingIs_marks|iDaysIn___init__|iDaysIn_marks|iOver___init__|iOver_marks|iNot___init__|iNot_marks|iAll___init__|iAll_marks|iSome___init__|iSome_marks|iDeal___init__|iBook___init__ => (apply L2.MtIn.of <;> k_is))
  (case nd_C => decide)

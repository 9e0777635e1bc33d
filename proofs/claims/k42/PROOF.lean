import PyProof.Rows.All
import Wide.All
import OpenK.AllK
import Wide.FinOn
import Lean
import PyProof.EqAt
import PyProof.EqKinds
import PyProof.TupleCall
import PySem.Challenge.RW_coverroll_k42_whole_a_cover_more
set_option tactic.hygienic false
set_option Elab.async false
set_option linter.all false
set_option maxRecDepth 100000
set_option maxHeartbeats 4000000
local macro_rules|`(tactic|ac_nf)=>`(tactic|decide +kernel)
local macro_rules|`(tactic|injections)=>`(tactic|exact ⟨rfl,rfl,rfl,by decide +kernel,rfl,by decide +kernel,by decide +kernel⟩)
set_option hygiene false in
local macro_rules|`(tactic|bv_omega)=>`(tactic|refine F.ok sc (fun vs H Q E h=>?_) (fun cdv A outer s H vs Q E hr h=>?_))
set_option hygiene false in
local macro_rules|`(tactic|ac_rfl)=>`(tactic|refine (vE rfl (vI rfl rfl (SqT.of hp) rfl ⟨rfl,vE rfl (dF (sne (by decide +kernel)) ?_)⟩)))
open PySem.W renaming Frag -> zAa, findIn -> zAc, mg_of -> zAz, nsIn -> zAD, mg_none_of -> zAK, emptyDict -> zAO, keepIn -> zAP, kitOne -> zAR, fnOf -> zAS, instObj -> zAX, kia_one -> zBh, codeIn -> zBq, callWith_K -> zBG, methodCall_KW -> zBS, plainGet -> zBY, makesIn -> zCh, isFn -> zCj, hasDictIn -> zCp, specialIn -> zCq, mroIn -> zCt
open List renaming length_map -> zAb, getElem?_eq_getElem -> zAd, length_cons -> zAf, mem_cons_of_mem -> zAg, size_toArray -> zAh, getElem?_eq_some_iff -> zAi, mem_cons_self -> zAj, mem_singleton -> zAk, length_append -> zAm, mem_cons -> zAo, map_append -> zAr, getD_eq_getElem?_getD -> zAs, replicate -> zAv, getElem?_map -> zAw, length_take -> zAx, mem_map -> zAy, mem_append -> zAA, take_length -> zAE, mem_of_getElem? -> zAF, range -> zAI, pairwise_cons -> zAJ, length_range -> zAL, mem_append_right -> zAM, map_cons -> zAN, nodup_cons -> zAT, getElem_of_mem -> zAU, append_nil -> zAY, getElem_mem -> zAZ, not_mem_nil -> zBa, pairwise_iff_getElem -> zBb, length_replicate -> zBe, length_filter_le -> zBg, filter_cons_of_pos -> zBi, filter_cons_of_neg -> zBj, length_drop -> zBn, mem_filter -> zBr, replicate_succ -> zBs, nodup_iff_pairwise_ne -> zBt, mem_range -> zBu, length_singleton -> zBv, drop_eq_getElem_cons -> zBw, map_map -> zBx, flatten_cons -> zBy, append_assoc -> zBA, lookup_cons -> zBC, drop_length -> zBD, zipWith_cons_cons -> zBF, pairwise_map -> zBI, length_erase_of_mem -> zBJ, find?_cons -> zBK, length_nil -> zBL, range_succ -> zBN, filter_nil -> zBO, length_pos_of_mem -> zBQ, drop_sublist -> zBR, getElem?_eq_none -> zBU, getElem?_toArray -> zBV, take_append_drop -> zBW, mem_append_left -> zBX, getElem_toArray -> zBZ, mem_erase_of_ne -> zCb, mem_flatten -> zCc, getElem?_append_right -> zCd, lookup -> zCf, filterMap_cons -> zCg, eq_of_mem_replicate -> zCl, nodup_nil -> zCn, take_zero -> zCo, nodup_append -> zCr, take_of_length_le -> zCs, all_cons -> zCu, any_cons -> zCv, all_eq_true -> zCw, any_eq_true -> zCx
open PySem.Heap renaming get?_push_of_some -> zAe, lt_size -> zAq, get?_push_size -> zAt, SameBut -> zAQ, size_push -> zBp, get?_update_other -> zBP, get?_update_self -> zBT
open Bool renaming false_ne_true -> zAl, and_eq_true -> zAp, eq_false_iff -> zBc, not_eq_true' -> zBd, false_eq_true -> zBM, and_false -> zCm
open Nat renaming le_refl -> zAn, ne_of_lt -> zAu, zero_le -> zAB, le_trans -> zAG, lt_of_lt_of_le -> zAH, ne_of_gt -> zBk, le_succ -> zBl, not_lt_zero -> zBm, lt_irrefl -> zBo, lt_succ_of_lt -> zBz, lt_succ_self -> zBB, lt_trichotomy -> zBH, lt_of_le_of_lt -> zCk
open Array renaming length_toList -> zAC, getElem?_eq_getElem -> zAV, getElem?_toList -> zBf, getElem?_eq_none -> zBE, getD -> zCa, perm_iff_toList_perm -> zCe
open Option renaming map_eq_some_iff -> zAW, map_some -> zCi
open PySem renaming wpAny_bind -> zCy, wpAny_pure -> zCz, sizeLine_eq -> zCA, bootBuiltins -> zCB, FuncData -> zCC, mainGlobals -> zCD
namespace L2
open PySem PySem.Spec PyProof.Rows
abbrev Dt:=Sum Int Str
def Vk:Dt->Value->Bool
 | .inl k,v=>Value.isInt k v
 | .inr x,v=>Value.isStrOf x v
def PN (w:World):Dt->Int
 | .inl k=>hashInt k
 | .inr x=>hashStr w x
theorem Dc:∀ {k:Dt} {v:Value},Vk k v=true->(∃ i t,k=Sum.inl i/\v=Value.int i t)\/(∃ x t,k=Sum.inr x/\v=Value.str x t)
 | .inl i,v,h=>by
  obtain⟨t,e⟩:=Value.isInt_shape (k:=i) (v:=v) h;exact .inl ⟨i,t,rfl,e⟩
 | .inr x,v,h=>by
  obtain⟨t,e⟩:=Value.isStrOf_shape (x:=x) (v:=v) h;exact .inr ⟨x,t,rfl,e⟩
theorem AH (i:Int) (t:Tok):Vk (.inl i) (.int i t)=true:=by simp [Vk,Value.isInt]
theorem Z6 (x:Str) (t:Tok):Vk (.inr x) (.str x t)=true:=by simp [Vk,Value.isStrOf]
theorem LB (a b:Int):decide ((Sum.inl a:Dt)=Sum.inl b)=(a==b):=by
 by_cases e:a=b
 ·subst e; simp
 ·have h:¬ (Sum.inl a:Dt)=Sum.inl b:=fun q=>e (Sum.inl.inj q)
  rw[decide_eq_false h];exact (beq_eq_false_iff_ne.mpr e).symm
theorem JY (a b:Str):decide ((Sum.inr a:Dt)=Sum.inr b)=decide (a=b):=by
 by_cases e:a=b
 ·subst e; simp
 ·have h:¬ (Sum.inr a:Dt)=Sum.inr b:=fun q=>e (Sum.inr.inj q)
  rw[decide_eq_false h,decide_eq_false e]
theorem JF (a:Int) (b:Str):decide ((Sum.inl a:Dt)=Sum.inr b)=false:=decide_eq_false (fun q=>nomatch q)
theorem JH (a:Str) (b:Int):decide ((Sum.inr a:Dt)=Sum.inl b)=false:=decide_eq_false (fun q=>nomatch q)
def Dl (prog:Program) (w:World):PySem.KeyKind prog w Dt where
 is:=Vk
 hash:=PN w
 inj:=fun v a b ha hb=>by
  rcases Dc ha with ⟨i,t,rfl,rfl⟩ | ⟨x,t,rfl,rfl⟩
  ·rcases Dc hb with ⟨j,u,rfl,e⟩ | ⟨y,u,rfl,e⟩
   ·injection e with e1 _; rw[e1]
   ·exact nomatch e
  ·rcases Dc hb with ⟨j,u,rfl,e⟩ | ⟨y,u,rfl,e⟩
   ·exact nomatch e
   ·injection e with e1 _; rw[e1]
 byValue:=fun k v h=>by
  rcases Dc h with ⟨i,t,rfl,rfl⟩ | ⟨x,t,rfl,rfl⟩ <;> rfl
 pyHash:=fun hv h=>by
  rcases Dc hv with ⟨i,t,rfl,rfl⟩ | ⟨x,t,rfl,rfl⟩
  ·exact wpAny_pyHash_int h
  ·exact wpAny_pyHash_str h
 eqBool:=fun hu hv h=>by
  rcases Dc hu with ⟨i,t,rfl,rfl⟩ | ⟨x,t,rfl,rfl⟩
  ·rcases Dc hv with ⟨j,u,rfl,rfl⟩ | ⟨y,u,rfl,rfl⟩
   ·rw[LB] at h; exact wpAny_eqBool_int h
   ·rw[JF] at h; exact SeqAt.EqAt.int_str i t y u _ _ _ _ h
  ·rcases Dc hv with ⟨j,u,rfl,rfl⟩ | ⟨y,u,rfl,rfl⟩
   ·rw[JH] at h; exact SeqAt.EqAt.str_int x t j u _ _ _ _ h
   ·rw[JY] at h; exact wpAny_eqBool_str h
 «strs» := fun k x t v h=>by
  rcases Dc h with ⟨i,u,rfl,e⟩ | ⟨y,u,rfl,e⟩
  ·exact nomatch e
  ·injection e with e1 _
   subst e1;cases v <;> rfl
theorem Zu (prog:Program) (w:World) (i:Int) (t:Tok):(Dl prog w).is (.inl i) (.int i t)=true:=AH i t
theorem Zo (prog:Program) (w:World) (x:Str) (t:Tok):(Dl prog w).is (.inr x) (.str x t)=true:=Z6 x t
inductive V where
 | non | bl (b:Bool) | int (i:Int) | str (x:Str) | byt (b:Array UInt8) | flt (b:UInt64) | ref (a:Addr) | ty (n:String)
 deriving DecidableEq
def RelV:V->Value->Prop
 | .non,u=>u=Value.none
 | .bl b,u=>u=Value.bool b
 | .int i,u=>∃ t,u=Value.int i t
 | .str x,u=>∃ t,u=Value.str x t
 | .byt b,u=>∃ t,u=Value.bytes b t
 | .flt b,u=>∃ t,u=Value.float b t
 | .ref a,u=>u=Value.ref a
 | .ty n,u=>u=Value.type n
abbrev Vals:List V->List Value->Prop:=Paired RelV
theorem Vals.length {xs:List V} {us:List Value} (r:Vals xs us):xs.length=us.length:=Paired.length r
theorem Vals.get:∀ {xs:List V} {us:List Value} {i:Nat} {x:V},Vals xs us->xs[i]?=some x->∃ u,us[i]?=some u/\RelV x u
 | _,_,_,_,.nil,e=>by simp at e
 | _,_,0,_,.cons r _,e=>by simp at e; subst e; exact⟨_,rfl,r⟩
 | _,_,i+1,x,.cons _ t,e=>by
  obtain⟨u,h1,h2⟩:=Vals.get (i:=i) (x:=x) t (by simpa using e);exact⟨u,by simpa using h1,h2⟩
theorem Vals.set {x:V} {u:Value} (r:RelV x u):∀ {xs:List V} {us:List Value} (i:Nat),Vals xs us->Vals (xs.set i x) (us.set i u)
 | _,_,_,.nil=>.nil
 | _,_,0,.cons _ t=>.cons r t
 | _,_,i+1,.cons q t=>.cons q (Vals.set r i t)
theorem Vals.append:∀ {xs ys:List V} {us ws:List Value},Vals xs us->Vals ys ws->Vals (xs++ys) (us++ws)
 | _,_,_,_,.nil,s=>s
 | _,_,_,_,.cons r t,s=>.cons r (Vals.append t s)
theorem Vals.take:∀ {xs:List V} {us:List Value} (n:Nat),Vals xs us->Vals (xs.take n) (us.take n)
 | _,_,0,_=>.nil
 | _,_,_+1,.nil=>.nil
 | _,_,n+1,.cons r t=>.cons r (Vals.take n t)
theorem Vals.drop:∀ {xs:List V} {us:List Value} (n:Nat),Vals xs us->Vals (xs.drop n) (us.drop n)
 | _,_,0,r=>r
 | _,_,_+1,.nil=>.nil
 | _,_,n+1,.cons _ t=>Vals.drop n t
def RelO:Option V->Option Value->Prop
 | some v,some u=>RelV v u
 | none,none=>True
 | _,_=>False
def KV {κ:Type}:List (κ×V)->List (κ×Value)->Prop:=Paired fun (p:κ×V) (q:κ×Value)=>p.1=q.1/\RelV p.2 q.2
def kV:Dt->V
 | .inl i=>.int i
 | .inr x=>.str x
inductive HO where
 | lst (xs:List V)
 | tup (xs:List V)
 | dK (kvs:List (Dt×V)) | dT (kvs:List (List Dt×V))
 | set (S:Int->Bool) (n:Nat)
 | ins (C dx:Addr) (fs:List (Str×V))
 | own (x:Addr)
 | xd (fs:List (Str×V))
 | met (f x:Addr)
 | rng (lo hi:Int)
 | frz (o:Obj) (u:HO)
 | tbl (ps:Array Value)
 | ext (φ:Heap->Prop)
abbrev Hp:=Addr->Option HO
def upd (H:Hp) (a:Addr) (o:HO):Hp:=fun b=>if b=a then some o else H b
theorem Ab {H:Hp} {a:Addr} {o:HO}:upd H a o a=some o:=by unfold upd; rw[if_pos rfl]
theorem Ar {H:Hp} {a b:Addr} {o:HO} (h:b≠a):upd H a o b=H b:=by unfold upd; rw[if_neg h]
theorem He {H:Hp} {a b:Addr} {o u:HO} (h:H a=some o) (h':H b=some u) (d:o≠u):a≠b:=by
 intro e; subst e; rw[h] at h'; exact d (Option.some.inj h')
theorem Ap {H:Hp} {a b:Addr} {o:HO} (h:H a=some o) (h':H b=none):a≠b:=by
 intro e; subst e; rw[h] at h'; cases h'
section
variable (P:Program) (w:World)
def ObjOk (H:Hp) (h:Heap) (a:Addr):HO->Prop
 | .lst xs=>xs.length<=sizeLine/\∃ (its:List Value) (n:Nat),Vals xs its/\h.get? a=some { cls:=.type "list",data:=.seq its.toArray n }
 | .tup xs=>xs.length<=sizeLine/\∃ its:List Value,Vals xs its/\IsTup h a its.toArray
 | .dK kvs=>kvs.length<=sizeLine/\(a==sysModules)=false/\∃ vs,KV kvs vs/\h.DictOf (Dl P w) a vs
 | .dT kvs=>kvs.length<=sizeLine/\(a==sysModules)=false/\∃ xs:List (List Dt×Addr×Value),
   Paired (fun (p:List Dt×V) (q:List Dt×Addr×Value)=>p.1=q.1/\H q.2.1=some (.tup (p.1.map kV))/\RelV p.2 q.2.2) kvs xs /\
   ∃ o es ep,h.get? a=some o/\o.ExactDict/\o.data = .dict es ep/\es.toList=xs.map (entryOfKey (tupleKind (Dl P w)))/\(xs.map (·.1)).Nodup
 | .set S n=>h.SetOf (intKind P w) a S n
 | .ins C dx fs=>H dx=some (.own a)/\fs.length<=1000/\dx≠a/\h.get? a=some (zAX C dx) /\
   ∃ mA,h.Ns1 dx mA/\(∀ f,RelO (fs.lookup f) (mA f))/\PySem.Within mA (fs.map (·.1))
 | .own _=>∃ o,h.get? a=some o
 | .xd fs=>∃ mA,h.Ns1 a mA/\∀ f,RelO (fs.lookup f) (mA f)
 | .rng lo hi=>∃ t u v,h.get? a=some { cls:=.type "range",data:=.fields #[.int lo t,.int hi u,.int 1 v] }
 | .frz o u=>h.get? a=some o/\ObjOk H h a u
 | .tbl ps=>h.get? a=some { cls:=.none,data:=.fields ps }
 | .met f x=>h.get? a=some (PySem.W.methodObj (.ref f) (.ref x))
 | .ext φ=>φ h/\(∃ o,h.get? a=some o)/\∀ h1 h2:Heap,φ h1->(∀ o,h1.get? a=some o->h2.get? a=some o)->φ h2
def HOk (H:Hp) (h:Heap):Prop:=∀ a o,H a=some o->ObjOk P w H h a o
end
section
variable {P:Program} {w:World} {H H':Hp} {h h':Heap} {a:Addr} {o:HO}
theorem ObjOk.lt (x:ObjOk P w H h a o):a<h.objs.size:=by
 cases o with
 | lst xs=>obtain⟨_,_,_,_,e⟩:=x; exact zAq e
 | tup xs=>obtain⟨_,_,_,p⟩:=x; exact p.lt
 | dK kvs=>obtain⟨_,_,_,_,o,_,_,e,_⟩:=x; exact zAq e
 | dT kvs=>obtain⟨_,_,_,_,o,_,_,e,_⟩:=x; exact zAq e
 | set S n=>obtain⟨o,_,_,_,e,_⟩:=x; exact zAq e
 | ins C dx fs=>obtain⟨_,_,_,e,_⟩:=x; exact zAq e
 | own y=>obtain⟨_,e⟩:=x; exact zAq e
 | xd fs=>obtain⟨_,⟨_,_,_,e,_⟩,_⟩:=x; exact zAq e
 | rng lo hi=>obtain⟨_,_,_,e⟩:=x; exact zAq e
 | frz ob u=>obtain⟨e,_⟩:=x; exact zAq e
 | tbl ps=>exact zAq (show h.get? a=some _ from x)
 | met f y=>exact zAq (show h.get? a=some _ from x)
 | ext φ=>obtain⟨_,⟨_,e⟩,_⟩:=x; exact zAq e
theorem Paired.mapP {α β:Type} {F G:α->β->Prop}:∀ {l₁ : List α} {l₂ : List β},Paired F l₁ l₂ -> (∀ a b,F a b->G a b)->Paired G l₁ l₂
 | _,_,.nil,_=>.nil
 | _,_,.cons r t,f=>.cons (f _ _ r) (Paired.mapP t f)
theorem ObjOk.stay (x:ObjOk P w H h a o) (k:∀ b u,(b=a\/H b=some (.own a))->h.get? b=some u->h'.get? b=some u)
  (ho:∀ b,H b=some (.own a)->H' b=some (.own a)) (ht:∀ b xs,H b=some (.tup xs)->H' b=some (.tup xs)):ObjOk P w H' h' a o:=by
 induction o with
 | lst xs=>obtain⟨z,its,n,r,e⟩:=x; exact⟨z,its,n,r,k _ _ (.inl rfl) e⟩
 | tup xs=>obtain⟨z,its,r,ob,e,c⟩:=x; exact⟨z,its,r,ob,k _ _ (.inl rfl) e,c⟩
 | dK kvs=>obtain⟨z,y,vs,r,ob,es,ep,e,c⟩:=x; exact⟨z,y,vs,r,ob,es,ep,k _ _ (.inl rfl) e,c⟩
 | dT kvs=>
  obtain⟨z,y,xs,r,ob,es,ep,e,c⟩:=x;exact⟨z,y,xs,Paired.mapP r fun p q z=>⟨z.1,ht _ _ z.2.1,z.2.2⟩,ob,es,ep,k _ _ (.inl rfl) e,c⟩
 | set S n=>obtain⟨ob,es,ep,t,e,c⟩:=x; exact⟨ob,es,ep,t,k _ _ (.inl rfl) e,c⟩
 | ins C dx fs=>
  obtain⟨d,z,ne,e,mA,⟨od,es,ep,e2,c⟩,r⟩:=x;exact⟨ho _ d,z,ne,k _ _ (.inl rfl) e,mA,⟨od,es,ep,k _ _ (.inr d) e2,c⟩,r⟩
 | own y=>obtain⟨ob,e⟩:=x; exact⟨ob,k _ _ (.inl rfl) e⟩
 | xd fs=>obtain⟨mA,⟨od,es,ep,e,c⟩,r⟩:=x; exact⟨mA,⟨od,es,ep,k _ _ (.inl rfl) e,c⟩,r⟩
 | rng lo hi=>obtain⟨t,u,v,e⟩:=x; exact⟨t,u,v,k _ _ (.inl rfl) e⟩
 | frz ob u ih=>obtain⟨e,q⟩:=x; exact⟨k _ _ (.inl rfl) e,ih q⟩
 | tbl ps=>
  have e:h.get? a=some { cls:=.none,data:=.fields ps }:=x;show h'.get? a=some { cls:=.none,data:=.fields ps };exact k a _ (.inl rfl) e
 | met f y=>
  have e:h.get? a=some (PySem.W.methodObj (.ref f) (.ref y)):=x;show h'.get? a=some (PySem.W.methodObj (.ref f) (.ref y));exact k a _ (.inl rfl) e
 | ext φ=>obtain⟨p,⟨o,e⟩,st⟩:=x; exact⟨st _ _ p fun o q=>k _ _ (.inl rfl) q,⟨o,k _ _ (.inl rfl) e⟩,st⟩
theorem HOk.lt (x:HOk P w H h) (e:H a=some o):a<h.objs.size:=(x a o e).lt
theorem HOk.fresh (x:HOk P w H h) (e:h.objs.size<=a):H a=none:=by
 cases q:H a with
 | none=>rfl
 | some u=>exact absurd (zAH (x.lt q) e) (zBo _)
theorem HOk.kept (x:HOk P w H h) (k:∀ b u,h.get? b=some u->h'.get? b=some u):HOk P w H h':=fun a o e=>
 (x a o e).stay (fun b u _ q=>k b u q) (fun _ q=>q) fun _ _ q=>q
theorem HOk.laid (x:HOk P w H h) (k:∀ b u,h.get? b=some u->h'.get? b=some u) (hp:h.objs.size<=a) (new:ObjOk P w (upd H a o) h' a o):HOk P w (upd H a o) h':=fun b u e=>by
 have hn:=x.fresh hp;by_cases hb:b=a
 ·subst hb; rw[Ab] at e; cases e; exact new
 ·rw[Ar hb] at e
  exact (x b u e).stay (fun c v _ q=>k c v q) (fun c q=>by rw[Ar (Ap q hn)]; exact q) fun c xs q=>by rw[Ar (Ap q hn)]; exact q
end
def Rd (H:Hp) (a:Addr) (u:HO):Prop:=H a=some u\/∃ o,H a=some (.frz o u)
theorem Rd.ok {P:Program} {w:World} {H:Hp} {h:Heap} {a:Addr} {u:HO} (r:Rd H a u) (x:HOk P w H h):ObjOk P w H h a u:=by
 rcases r with r | ⟨o,r⟩
 ·exact x a u r
 ·obtain⟨_,q⟩:=x a _ r
  exact q
def NU:Option HO->Prop
 | some (.lst _)=>True
 | some (.dK _)=>True
 | some (.dT _)=>True
 | some (.set _ _)=>True
 | some (.ins _ _ _)=>True
 | some (.ext _)=>True
 | _=>False
section
variable {P:Program} {w:World} {H:Hp} {h h':Heap} {x e:Addr} {o':HO}
theorem HOk.write (ok:HOk P w H h) (mu:NU (H x)) (he:e=x\/H e=some (.own x)) (k:∀ b u,b≠e->h.get? b=some u->h'.get? b=some u) (heo:∃ u,h'.get? e=some u)
  (new:ObjOk P w (upd H x o') h' x o'):HOk P w (upd H x o') h':=fun b u q=>by
 have nown:∀ c y,H c=some (.own y)->c≠x:=fun c y r z=>by subst z; rw[r] at mu; exact mu
 have ntup:∀ c xs,H c=some (.tup xs)->c≠x:=fun c xs r z=>by subst z; rw[r] at mu; exact mu
 by_cases hb:b=x
 ·subst hb; rw[Ab] at q; cases q; exact new
 ·rw[Ar hb] at q
  by_cases hbe:b=e
  ·have q':H b=some (.own x):=by
    rcases he with z | z
    ·exact absurd (hbe.trans z) hb
    ·rw[hbe]; exact z
   rw[q] at q'; cases q';obtain⟨v,hv⟩:=heo;exact⟨v,by rw[hbe]; exact hv⟩
  ·refine (ok b u q).stay (fun c v hc r=>k c v ?_ r) (fun c r=>by rw[Ar (nown c b r)]; exact r) fun c xs r=>by rw[Ar (ntup c xs r)]; exact r
   rcases hc with rfl | hc
   ·exact hbe
   ·rintro rfl
    rcases he with z | z
    ·exact nown c b hc z
    ·rw[hc] at z; cases z; exact hb rfl
end
structure Un (fs ex:List Addr) (H H':Hp) (h h':Heap):Prop where
 keep:∀ b o,h.get? b=some o->H b=none->b∉fs->b∉ex->h'.get? b=some o
 slot:∀ b o,h.get? b=some o->H b=none->b∈fs->b∉ex->∃ sl,h'.get? b=some { o with slots:=sl }
 free:∀ b o,h.get? b=some o->H b=none->b∉ex->H' b=none
 there:∀ b o,h.get? b=some o->b∉ex->∃ o',h'.get? b=some o'
 tups:∀ b xs,H b=some (.tup xs)->H' b=some (.tup xs)
 frzs:∀ b o u,H b=some (.frz o u)->H' b=some (.frz o u)
 tbls:∀ b ps,H b=some (.tbl ps)->∃ more,H' b=some (.tbl (ps++more))
section
variable {fs fs' ex ex':List Addr} {H H1 H2:Hp} {h h1 h2 h':Heap} {a x e:Addr} {o:HO}
theorem Un.any (u:Un fs ex H H1 h h1) {b:Addr} {ob:Obj} (q:h.get? b=some ob) (n:H b=none) (hx:b∉ex):∃ sl,h1.get? b=some { ob with slots:=sl }:=by
 by_cases hb:b∈fs
 ·exact u.slot b ob q n hb hx
 ·exact⟨ob.slots,u.keep b ob q n hb hx⟩
theorem Un.kept (k:∀ b u,h.get? b=some u->h'.get? b=some u):Un fs ex H H h h':=
 ⟨fun b ob q _ _ _=>k b ob q,fun b ob q _ _ _=>⟨ob.slots,k b ob q⟩,fun _ _ _ n _=>n,fun b ob q _=>⟨ob,k b ob q⟩,fun _ _ q=>q,fun _ _ _ q=>q,fun _ ps q=>⟨#[],by rw[q]; simp⟩⟩
theorem Un.refl:Un fs ex H H h h:=Un.kept fun _ _ q=>q
theorem Un.laid (k:∀ b u,h.get? b=some u->h'.get? b=some u) (hp:h.objs.size<=a) (hn:H a=none):Un fs ex H (upd H a o) h h' where
 keep:=fun b u q _ _ _=>k b u q
 slot:=fun b u q _ _ _=>⟨u.slots,k b u q⟩
 free:=fun b u q n _=>by rw[Ar (zAu (zAH (zAq q) hp))]; exact n
 there:=fun b u q _=>⟨u,k b u q⟩
 tups:=fun b xs q=>by rw[Ar (Ap q hn)]; exact q
 frzs:=fun b u xs q=>by rw[Ar (Ap q hn)]; exact q
 tbls:=fun b ps q=>⟨#[],by rw[Ar (Ap q hn),q]; simp⟩
theorem Un.write (mu:NU (H x)) (he:e=x\/H e=some (.own x)) (k:∀ b u,b≠e->h.get? b=some u->h'.get? b=some u) (heo:∃ u,h'.get? e=some u):Un fs ex H (upd H x o) h h':=by
 have hx:∀ b,H b=none->b≠x:=fun b n z=>by subst z; rw[n] at mu; exact mu
 have hb:∀ b,H b=none->b≠e:=fun b n z=>by
  subst z;rcases he with r | r
  ·exact hx b n r
  ·rw[n] at r; cases r
 have hm:∀ b u,H b=some u->¬ NU (some u)->b≠x:=fun b u q nm z=>by subst z; rw[q] at mu; exact nm mu
 refine⟨fun b u q n _ _=>k b u (hb b n) q,fun b u q n _ _=>⟨u.slots,k b u (hb b n) q⟩,fun b u q n _=>by rw[Ar (hx b n)]; exact n,fun b u q _=>?_,
  fun b xs q=>by rw[Ar (hm b _ q fun z=>z)]; exact q,fun b u xs q=>by rw[Ar (hm b _ q fun z=>z)]; exact q,fun b ps q=>⟨#[],by rw[Ar (hm b _ q fun z=>z),q]; simp⟩⟩
 by_cases hbe:b=e
 ·subst hbe; exact heo
 ·exact⟨u,k b u hbe q⟩
end
def NZ (h:Heap) (H:Hp):List Addr:=(zAI h.objs.size).filter fun a=>(H a).isSome
def Yb (h:Heap) (H:Hp):Heap:=PySem.W.hideAll h (NZ h H)
theorem Y7 (h:Heap) (H:Hp):(Yb h H).objs.size=h.objs.size:=PySem.W.hideAll_size _ _
theorem FT {h:Heap} {H:Hp} {b:Addr} {o:Obj} (e:h.get? b=some o) (n:H b=none):(Yb h H).get? b=some o:=
 PySem.W.hideAll_get _ e fun hm=>by
  have q:(H b).isSome=true:=(zBr.mp hm).2;rw[n] at q; simp at q
theorem HX {h:Heap} {H:Hp} {b:Addr} {o:Obj} (e:(Yb h H).get? b=some o):h.get? b=some o/\H b=none:=by
 have e':h.get? b=some o:=PySem.W.of_hideAll (NZ h H) e;refine⟨e',?_⟩;cases q:H b with
 | none=>rfl
 | some x=>
  have hm:b∈NZ h H:=zBr.mpr ⟨zBu.mpr (zAq e'),by simp [q]⟩;have z:(Yb h H).get? b=none:=PySem.W.hideAll_none (NZ h H) hm;rw[z] at e; cases e
structure Mod (K:zAa) (mg:Str->Option Value) (base:Heap):Prop where
 kin:K.In base
 glob:base.Ns zCD mg
 blt:∃ mb,base.Ns builtinsNs mb/\∀ x:Str,x ≠ "__name__" -> mb x=zCB x
 nolimit:base.NoLimit
/-- the context: a def's body (or a comprehension's block) running. base: fixed through the whole law; s₀,H₀: the entry; outer: the frames whose slots others may change (a def's callers); stack: all frames that run;
   ex: iterators that were made ahead of the entry and are walked here (a comprehension's); fn: the names whose cells were made at the entry (a def: all; a comprehension's block: its own); calm: not within an except suite; pn: pins that every state bears; xe: what is wanted of an exception that leaves the code -/
structure Cx where
 prog:Program
 w:World
 K:zAa
 mg:Str->Option Value
 base:Heap
 A:Around
 N:List Str
 s₀ : Shared
 H₀ : Hp
 env:Env
 outer:List Env
 stack:List Env
 ex:List Addr
 fn:Str->Bool
 calm:Bool
 pn:List (Addr×Obj)
 xe:Value->Shared->Prop
def AI (l:List Env):List Addr:=l.filterMap (·.frame)
abbrev Cx.fs (X:Cx):List Addr:=AI X.outer
def OX (sc:Scope) (x:Str):Prop:=sc.names.lookup x=some .local\/sc.names.lookup x=some .cell\/sc.names.lookup x=some .free
def NY (sc:Scope) (x:Str):Prop:=sc.names.lookup x=some .local\/sc.names.lookup x=some .cell
def PD (env:Env) (h:Heap) (m:Str->Option Value) (x:Str) (u:Value):Prop:=
 (env.kindOf x=some .local/\m x=some u)\/((env.kindOf x=some .cell\/env.kindOf x=some .free)/\∃ c,env.cells.lookup x=some c/\h.IsCell c (some u))
structure Cx.Ok (X:Cx):Prop where
 mod:Mod X.K X.mg X.base
 kind:X.env.scope.kind = .function
 glob:X.env.globals=zCD
 blt:X.env.builtins=builtinsNs
 above:X.s₀.heap.objs.size<=X.env.locals
 inj:∀ x y c,X.env.cells.lookup x=some c->X.env.cells.lookup y=some c->x=y
 has:∀ x,(X.env.kindOf x=some .cell\/X.env.kindOf x=some .free)->∃ c,X.env.cells.lookup x=some c
 cab:∀ x c,X.fn x=true->X.env.cells.lookup x=some c->X.s₀.heap.objs.size<=c
 hd:X.calm=true->X.A.handled=none
 frames:X.A.frames=some X.stack
 stk:X.stack=X.outer\/(X.stack=X.env::X.outer/\X.env.frame=some X.env.locals)
 exf:∀ b∈X.ex,b≠X.env.locals/\∀ x c,X.env.cells.lookup x=some c->c≠b
 bs:∀ b o,X.base.get? b=some o->X.s₀.heap.get? b=some o/\X.H₀ b=none
 bsz:X.base.objs.size<=X.s₀.heap.objs.size
 noex:∀ b o,X.base.get? b=some o->b∉X.ex
 exfs:∀ b∈X.ex,b∉X.fs
 funs:X.s₀.heap.FunFrames X.base X.outer
 frf:∀ b∈X.fs,X.H₀ b=none
structure Inv (X:Cx) (pins:List (Addr×Obj)) (σ:List (Option V)) (H:Hp) (s:Shared):Prop where
 ok:X.Ok
 os:s.os=X.s₀.os
 bare:AllBare s.gens
 base:Un X.fs X.ex X.H₀ H X.s₀.heap s.heap
 loc:∃ m,s.heap.Ns X.env.locals m/\∀ (i:Nat) (x:Str) (v:V),X.N[i]?=some x->σ[i]?=some (some v)->OX X.env.scope x->∃ u,RelV v u/\PD X.env s.heap m x u
 cell:∀ x c,X.env.cells.lookup x=some c->∃ v,s.heap.IsCell c v
 free:H X.env.locals=none
 freeC:∀ x c,X.env.cells.lookup x=some c->H c=none
 pin:∀ p∈X.pn++pins,s.heap.get? p.1=some p.2/\H p.1=none/\p.1≠X.env.locals/\p.1∉X.fs/\∀ v,p.2.data ≠ .cell v
 hok:HOk X.prog X.w H s.heap
 len:σ.length=X.N.length
section
variable {X:Cx} {pins:List (Addr×Obj)} {σ:List (Option V)} {H H':Hp} {s:Shared} {h':Heap}
theorem Cx.Ok.nofr (ok:X.Ok) {b:Addr} {o:Obj} (e:X.base.get? b=some o):b∉X.fs:=fun hb=>by
 have:=(ok.funs.mem hb).1;rw[e] at this; cases this
theorem Inv.bs (I:Inv X pins σ H s):∀ b o,X.base.get? b=some o->s.heap.get? b=some o/\H b=none:=fun b o e=>
 ⟨I.base.keep b o (I.ok.bs b o e).1 (I.ok.bs b o e).2 (I.ok.nofr e) (I.ok.noex b o e),I.base.free b o (I.ok.bs b o e).1 (I.ok.bs b o e).2 (I.ok.noex b o e)⟩
theorem Inv.bk (I:Inv X pins σ H s):∀ b o,X.base.get? b=some o->s.heap.get? b=some o:=fun b o e=>(I.bs b o e).1
theorem Inv.mod (I:Inv X pins σ H s):Mod X.K X.mg X.base:=I.ok.mod
theorem Inv.kIn (I:Inv X pins σ H s):X.K.In s.heap:=I.ok.mod.kin.keeps I.bk
theorem Inv.lt (I:Inv X pins σ H s):X.env.locals<s.heap.objs.size:=let ⟨_,hn,_⟩:=I.loc; hn.lt
theorem Inv.sz (I:Inv X pins σ H s):X.s₀.heap.objs.size<=s.heap.objs.size:=zAG I.ok.above (Nat.le_of_lt I.lt)
theorem Inv.nofs (I:Inv X pins σ H s) {a:Addr} (h:s.heap.objs.size<=a):a∉X.fs:=fun hb=>by
 obtain⟨_,o,ho,_⟩:=I.ok.funs.mem hb;exact absurd (zAH (zAq ho) (zAG I.sz h)) (zBo _)
theorem Inv.cne (I:Inv X pins σ H s):∀ x c,X.env.cells.lookup x=some c->c≠X.env.locals:=fun x c e z=>by
 obtain⟨v,o,ho,hd⟩:=I.cell x c e;obtain⟨m,⟨o',es,ep,ho',hd',_⟩,_⟩:=I.loc;rw[z,ho'] at ho; cases ho; rw[hd'] at hd; cases hd
theorem Inv.funs (I:Inv X pins σ H s):s.heap.FunFrames X.base X.outer:=by
 have all:∀ (l:List Env),(∀ b∈AI l,b∈X.fs)->X.s₀.heap.FunFrames X.base l->s.heap.FunFrames X.base l:=by
  intro l
  induction l with
  | nil=>intro _ _; trivial
  | cons env r ih=>
   intro hs hl;obtain⟨hk,⟨L,o,hf,hn,ho,hd⟩,hr⟩:=hl;have hL:L∈X.fs:=hs L (by unfold AI; rw[zCg,hf]; exact zAj);obtain⟨sl,e⟩:=I.base.slot L o ho (I.ok.frf L hL) hL fun z=>I.ok.exfs L z hL;exact⟨hk,⟨L,_,hf,hn,e,hd⟩,ih (fun b hb=>hs b (by unfold AI; rw[zCg,hf]; exact zAg _ hb)) hr⟩
 exact all X.outer (fun _ hb=>hb) I.ok.funs
theorem Inv.stack (I:Inv X pins σ H s):s.heap.FunFrames X.base X.stack:=by
 rcases I.ok.stk with e | ⟨e,hf⟩
 ·rw[e]; exact I.funs
 ·rw[e]
  obtain⟨m,hn,_⟩:=I.loc;refine .cons (by rw[I.ok.kind]; decide) hf hn ?_ I.funs;exact Heap.get?_none_of_le (zAG I.ok.bsz I.ok.above)
theorem Inv.stkSub (I:Inv X pins σ H s):∀ b∈AI X.stack,b∈X.env.locals::X.fs:=fun b hb=>by
 rcases I.ok.stk with e | ⟨e,hf⟩
 ·rw[e] at hb; exact zAg _ hb
 ·rw[e] at hb
  unfold AI at hb;rw[zCg,hf] at hb;exact hb
theorem Inv.stkFree (I:Inv X pins σ H s):∀ b∈AI X.stack,H b=none:=fun b hb=>by
 rcases zAo.mp (I.stkSub b hb) with e | hb
 ·rw[e]; exact I.free
 ·obtain⟨_,o,ho,_⟩:=I.ok.funs.mem hb
  exact I.base.free b o ho (I.ok.frf b hb) fun z=>I.ok.exfs b z hb
theorem Inv.step {g':Array GenState} {t':Nat} {d':Drawn} {ch:List Addr} (I:Inv X pins σ H s)
  (hch:∀ b∈ch,(b∈X.ex\/X.s₀.heap.objs.size<=b)/\b≠X.env.locals/\(∀ x c,X.env.cells.lookup x=some c->c≠b)/\∀ p∈X.pn++pins,p.1≠b)
  (keep:∀ b o,b≠X.env.locals->b∉X.fs->b∉ch->s.heap.get? b=some o->H b=none->h'.get? b=some o)
  (slot:∀ b o,b≠X.env.locals->b∈X.fs->b∉ch->s.heap.get? b=some o->H b=none->∃ sl,h'.get? b=some { o with slots:=sl }) (free:∀ b o,b∉ch->s.heap.get? b=some o->H b=none->H' b=none)
  (there:∀ b o,b∉ch->s.heap.get? b=some o->∃ o',h'.get? b=some o')
  (tups:∀ b xs,H b=some (.tup xs)->H' b=some (.tup xs)) (frzs:∀ b o u,H b=some (.frz o u)->H' b=some (.frz o u)) (tbls:∀ b ps,H b=some (.tbl ps)->∃ more,H' b=some (.tbl (ps++more)))
  (ns:∀ m,s.heap.Ns X.env.locals m->h'.Ns X.env.locals m) (hok:HOk X.prog X.w H' h') (hg:AllBare g') :
  Inv X pins σ H' { s with heap:=h',gens:=g',drawn:=d',toks:=t' }:=by
 have neL:∀ b o,X.s₀.heap.get? b=some o->b≠X.env.locals:=fun b o e=>zAu (zAH (zAq e) I.ok.above);have neC:∀ b o,X.s₀.heap.get? b=some o->b∉X.ex->b∉ch:=fun b o e hx hb=>by
  rcases (hch b hb).1 with z | z
  ·exact hx z
  ·exact absurd (zAH (zAq e) z) (zBo _)
 have cellK:∀ x c,X.env.cells.lookup x=some c->∀ v,s.heap.IsCell c v->h'.IsCell c v:=fun x c e v ⟨o,ho,hd⟩=>by
  have nch:c∉ch:=fun z=>(hch c z).2.2.1 x c e rfl;by_cases hc:c∈X.fs
  ·obtain⟨sl,q⟩:=slot c o (I.cne x c e) hc nch ho (I.freeC x c e)
   exact⟨_,q,hd⟩
  ·exact⟨o,keep c o (I.cne x c e) hc nch ho (I.freeC x c e),hd⟩
 refine⟨I.ok,I.os,hg,⟨fun b o e n hb hx=>?_,fun b o e n hb hx=>?_,fun b o e n hx=>?_,fun b o e hx=>?_,fun b xs e=>tups b xs (I.base.tups b xs e),fun b o xs e=>frzs b o xs (I.base.frzs b o xs e),fun b ps e=>?_⟩,?_,fun x c e=>?_,?_,fun x c e=>?_,fun p hp=>?_,hok,I.len⟩
 ·exact keep b o (neL b o e) hb (neC b o e hx) (I.base.keep b o e n hb hx) (I.base.free b o e n hx)
 ·obtain⟨sl,e1⟩:=I.base.slot b o e n hb hx
  obtain⟨sl',e2⟩:=slot b _ (neL b o e) hb (neC b o e hx) e1 (I.base.free b o e n hx);exact⟨sl',e2⟩
 ·obtain⟨o',e1⟩:=I.base.there b o e hx
  exact free b o' (neC b o e hx) e1 (I.base.free b o e n hx)
 ·obtain⟨o',e1⟩:=I.base.there b o e hx
  exact there b o' (neC b o e hx) e1
 ·obtain⟨m1,e1⟩:=I.base.tbls b ps e
  obtain⟨m2,e2⟩:=tbls b _ e1;exact⟨m1++m2,by rw[e2,Array.append_assoc]⟩
 ·obtain⟨m,hn,hl⟩:=I.loc
  refine⟨m,ns m hn,fun i x v e1 e2 e3=>?_⟩;obtain⟨u,r,l⟩:=hl i x v e1 e2 e3;refine⟨u,r,?_⟩;rcases l with l | ⟨k,c,e,z⟩
  ·exact .inl l
  ·exact .inr ⟨k,c,e,cellK x c e _ z⟩
 ·obtain⟨v,z⟩:=I.cell x c e
  exact⟨v,cellK x c e v z⟩
 ·obtain⟨m,⟨o,_,_,ho,_⟩,_⟩:=I.loc
  exact free _ o (fun z=>(hch _ z).2.1 rfl) ho I.free
 ·obtain⟨v,o,ho,hd⟩:=I.cell x c e
  exact free c o (fun z=>(hch c z).2.2.1 x c e rfl) ho (I.freeC x c e)
 ·obtain⟨e,n,ne,nf,d⟩:=I.pin p hp
  have nch:p.1∉ch:=fun z=>(hch p.1 z).2.2.2 p hp rfl;exact⟨keep p.1 p.2 ne nf nch e n,free p.1 p.2 nch e n,ne,nf,d⟩
theorem Inv.un {t':Nat} (I:Inv X pins σ H s) (u:Un X.fs [] H H' s.heap h') (hok:HOk X.prog X.w H' h'):Inv X pins σ H' { s with heap:=h',toks:=t' }:=by
 obtain⟨m,⟨o,es,ep,ho,r⟩,_⟩:=id I.loc;obtain⟨sl,hL⟩:=u.any ho I.free (by simp);exact I.step (g':=s.gens) (d':=s.drawn) (ch:=[]) (fun _ z=>nomatch z) (fun b o _ hb _ e n=>u.keep b o e n hb (by simp)) (fun b o _ hb _ e n=>u.slot b o e n hb (by simp)) (fun b o _ e n=>u.free b o e n (by simp)) (fun b o _ e=>u.there b o e (by simp)) u.tups u.frzs u.tbls (fun m' hm=>by
  obtain⟨o',es',ep',ho',r'⟩:=hm;rw[ho] at ho'; cases ho';exact⟨_,es',ep',hL,r'⟩) hok I.bare
theorem Inv.call {g':Array GenState} {t':Nat} {d':Drawn} {ch:List Addr} (I:Inv X pins σ H s) (u:Un (AI X.stack) ch H H' s.heap h') (hok:HOk X.prog X.w H' h') (hg:AllBare g')
  (hch:∀ b∈ch,(b∈X.ex\/X.s₀.heap.objs.size<=b)/\b≠X.env.locals/\(∀ x c,X.env.cells.lookup x=some c->c≠b)/\∀ p∈X.pn++pins,p.1≠b) :
  Inv X pins σ H' { s with heap:=h',gens:=g',drawn:=d',toks:=t' }:=by
 obtain⟨m,⟨o,es,ep,ho,r⟩,_⟩:=id I.loc;obtain⟨sl,hL⟩:=u.any ho I.free fun z=>(hch _ z).2.1 rfl;exact I.step (ch:=ch) hch (fun b o hL hb hc e n=>u.keep b o e n (fun z=>(zAo.mp (I.stkSub b z)).elim hL hb) hc) (fun b o _ _ hc e n=>u.any e n hc) (fun b o hc e n=>u.free b o e n hc) (fun b o hc e=>u.there b o e hc) u.tups u.frzs u.tbls (fun m' hm=>by
  obtain⟨o',es',ep',ho',r'⟩:=hm;rw[ho] at ho'; cases ho';exact⟨_,es',ep',hL,r'⟩) hok hg
theorem Inv.turned {t':Nat} {it:Addr} (I:Inv X pins σ H s) (k:∀ b o,b≠it->s.heap.get? b=some o->h'.get? b=some o) (hn:H it=none) (hL:it≠X.env.locals)
  (h1:it∈X.ex\/X.s₀.heap.objs.size<=it) (h2:∀ x c,X.env.cells.lookup x=some c->c≠it) (h3:∀ p∈X.pn++pins,p.1≠it):Inv X pins σ H { s with heap:=h',toks:=t' }:=by
 have nit:∀ b u,H b=some u->b≠it:=fun b u e z=>by rw[z,hn] at e; cases e
 refine I.step (g':=s.gens) (d':=s.drawn) (ch:=[it]) (fun b hb=>?_) (fun b o _ _ hc e _=>k b o (fun z=>hc (by simp [z])) e) (fun b o _ _ hc e _=>⟨o.slots,k b o (fun z=>hc (by simp [z])) e⟩) (fun _ _ _ _ n=>n)
  (fun b o hc e=>⟨o,k b o (fun z=>hc (by simp [z])) e⟩) (fun _ _ e=>e) (fun _ _ _ e=>e) (fun b ps e=>⟨#[],by rw[e]; simp⟩) (fun m hm=>?_) (fun b u e=>?_) I.bare
 ·have e:b=it:=by simpa using hb
  subst e;exact⟨h1,hL,h2,h3⟩
 ·obtain⟨o,es,ep,ho,r⟩:=hm
  exact⟨o,es,ep,k _ o (Ne.symm hL) ho,r⟩
 ·refine (I.hok b u e).stay (fun c v hc q=>k c v ?_ q) (fun _ q=>q) fun _ _ q=>q
  rcases hc with z | z
  ·rw[z]; exact nit b u e
  ·exact nit c _ z
theorem Inv.tok (I:Inv X pins σ H s) (t:Nat):Inv X pins σ H { s with toks:=t }:=I.un (h':=s.heap) (t':=t) Un.refl I.hok
theorem Inv.kept {t':Nat} (I:Inv X pins σ H s) (k:∀ b u,s.heap.get? b=some u->h'.get? b=some u):Inv X pins σ H { s with heap:=h',toks:=t' }:=I.un (Un.kept k) (I.hok.kept k)
theorem Inv.laid {a:Addr} {o:HO} {t':Nat} (I:Inv X pins σ H s) (k:∀ b u,s.heap.get? b=some u->h'.get? b=some u) (hp:s.heap.objs.size<=a) (new:ObjOk X.prog X.w (upd H a o) h' a o) :
  Inv X pins σ (upd H a o) { s with heap:=h',toks:=t' }:=I.un (Un.laid k hp (I.hok.fresh hp)) (I.hok.laid k hp new)
theorem Inv.write {x e:Addr} {o:HO} {t':Nat} (I:Inv X pins σ H s) (mu:NU (H x)) (he:e=x\/H e=some (.own x)) (k:∀ b u,b≠e->s.heap.get? b=some u->h'.get? b=some u) (heo:∃ u,h'.get? e=some u)
  (new:ObjOk X.prog X.w (upd H x o) h' x o):Inv X pins σ (upd H x o) { s with heap:=h',toks:=t' }:=I.un (Un.write mu he k heo) (I.hok.write mu he k heo new)
theorem Inv.pins_of {pins':List (Addr×Obj)} (I:Inv X pins σ H s) (h:∀ p∈pins',s.heap.get? p.1=some p.2/\H p.1=none/\p.1≠X.env.locals/\p.1∉X.fs/\∀ v,p.2.data ≠ .cell v):Inv X pins' σ H s:=
 ⟨I.ok,I.os,I.bare,I.base,I.loc,I.cell,I.free,I.freeC,fun p hp=>(zAA.mp hp).elim (fun z=>I.pin p (zBX _ z)) (h p),I.hok,I.len⟩
theorem B7 {N:List Str} (hN:N.Nodup) {i j:Nat} {x:Str} (a:N[i]?=some x) (b:N[j]?=some x):i=j:=by
 obtain⟨h1,e1⟩:=zAi.mp a;obtain⟨h2,e2⟩:=zAi.mp b;exact (List.getElem_inj hN).mp (e1.trans e2.symm)
theorem Wh {M:Model} {A:Around} {E:Value->Shared->Prop} {i:Nat} {x:Str} {v:V} {u:Value} {Q:Unit->Shared->Prop} (I:Inv X pins σ H s) (hN:X.N.Nodup) (hi:X.N[i]?=some x) (hx:NY X.env.scope x) (r:RelV v u)
  (h:∀ s',Inv X pins (σ.set i (some v)) H s'->(∃ a,zAQ a s.heap s'.heap/\(a=X.env.locals\/X.env.cells.lookup x=some a))->Q () s') (hf:X.fn x=true\/X.env.scope.names.lookup x=some .local:=by first | exact .inl rfl | exact .inr rfl | assumption):wpAny M A (storeName X.env x u) Q E s:=by
 obtain⟨m,hn,hl⟩:=id I.loc;have hcls:(X.env.scope.kind == .class||(X.env.scope.kind == .module&&X.env.locals != X.env.globals))=false:=by rw[I.ok.kind]; rfl
 have hiσ:i<σ.length:=by rw[I.len]; exact (zAi.mp hi).1
 have cne:=I.cne;have tracked:∀ {a:Addr} {h':Heap},(∃ o,s.heap.get? a=some o/\H a=none)->zAQ a s.heap h'->HOk X.prog X.w H h':=fun {a h'} ha hs b ob e=>by
  obtain⟨_,_,hfree⟩:=ha;refine (I.hok b ob e).stay (fun c w' hc q=>(hs.2 c ?_).trans q) (fun _ q=>q) fun _ _ q=>q;rintro rfl;rcases hc with rfl | hc
  ·rw[hfree] at e; cases e
  ·rw[hfree] at hc; cases hc
 rcases hx with hk | hk
 ·refine wpAny_storeName_local hk hn (fun h' hn' hs=>?_) hcls
  obtain⟨oL,_,_,hoL,_⟩:=id hn;refine h _ ⟨I.ok,I.os,I.bare,⟨fun b o e n hb hx=>?_,fun b o e n hb hx=>?_,I.base.free,fun b o e hx=>?_,I.base.tups,I.base.frzs,I.base.tbls⟩,⟨_,hn',fun j y v' e1 e2 e3=>?_⟩,fun y c e=>?_,I.free,I.freeC,fun p hp=>?_,tracked ⟨oL,hoL,I.free⟩ hs,by simpa using I.len⟩ ⟨_,hs,.inl rfl⟩
  ·exact (hs.2 b (zAu (zAH (zAq e) I.ok.above))).trans (I.base.keep b o e n hb hx)
  ·obtain⟨sl,e1⟩:=I.base.slot b o e n hb hx
   exact⟨sl,(hs.2 b (zAu (zAH (zAq e) I.ok.above))).trans e1⟩
  ·obtain⟨o',e1⟩:=I.base.there b o e hx
   exact⟨o',(hs.2 b (zAu (zAH (zAq e) I.ok.above))).trans e1⟩
  ·by_cases hj:j=i
   ·subst hj
    rw[hi] at e1; cases e1;rw[List.getElem?_set_self hiσ] at e2;cases e2;exact⟨u,r,.inl ⟨hk,by simp⟩⟩
   ·rw[List.getElem?_set_ne (Ne.symm hj)] at e2
    obtain⟨u',r',q⟩:=hl j y v' e1 e2 e3;refine⟨u',r',?_⟩;rcases q with ⟨k,e⟩ | ⟨k,c,e,z⟩
    ·refine .inl ⟨k,?_⟩
     have:y≠x:=fun e=>hj (B7 hN e1 (e▸hi));simp [this,e]
    ·exact .inr ⟨k,c,e,z.sameBut hs (cne y c e)⟩
  ·obtain⟨w',z⟩:=I.cell y c e
   exact⟨w',z.sameBut hs (cne y c e)⟩
  ·obtain⟨e,n,ne,nf,d⟩:=I.pin p hp
   exact⟨(hs.2 p.1 ne).trans e,n,ne,nf,d⟩
 ·have hfn:X.fn x=true:=by
   rcases hf with z | z
   ·exact z
   ·rw[z] at hk; cases hk
  obtain⟨c,hc⟩:=I.ok.has x (.inl hk);obtain⟨w',z⟩:=I.cell x c hc;refine wpAny_storeName_cell I.ok.kind hk hc z (fun h' hc' hs=>?_);obtain⟨oc,hoc,hocd⟩:=id z;refine h { s with heap:=h' } ⟨I.ok,I.os,I.bare,⟨fun b o e n hb hx=>?_,fun b o e n hb hx=>?_,I.base.free,fun b o e hx=>?_,I.base.tups,I.base.frzs,I.base.tbls⟩,⟨m,hn.sameBut hs (Ne.symm (cne x c hc)),fun j y v' e1 e2 e3=>?_⟩,fun y c' e=>?_,I.free,I.freeC,fun p hp=>?_,tracked ⟨oc,hoc,I.freeC x c hc⟩ hs,by simpa using I.len⟩ ⟨c,hs,.inr hc⟩
  ·exact (hs.2 b (zAu (zAH (zAq e) (I.ok.cab x c hfn hc)))).trans (I.base.keep b o e n hb hx)
  ·obtain⟨sl,e1⟩:=I.base.slot b o e n hb hx
   exact⟨sl,(hs.2 b (zAu (zAH (zAq e) (I.ok.cab x c hfn hc)))).trans e1⟩
  ·obtain⟨o',e1⟩:=I.base.there b o e hx
   exact⟨o',(hs.2 b (zAu (zAH (zAq e) (I.ok.cab x c hfn hc)))).trans e1⟩
  ·by_cases hj:j=i
   ·subst hj
    rw[hi] at e1; cases e1;rw[List.getElem?_set_self hiσ] at e2;cases e2;exact⟨u,r,.inr ⟨.inl hk,c,hc,hc'⟩⟩
   ·rw[List.getElem?_set_ne (Ne.symm hj)] at e2
    obtain⟨u',r',q⟩:=hl j y v' e1 e2 e3;refine⟨u',r',?_⟩;rcases q with q | ⟨k,c',e,z'⟩
    ·exact .inl q
    ·refine .inr ⟨k,c',e,z'.sameBut hs ?_⟩
     rintro rfl;exact hj (B7 hN e1 (I.ok.inj _ _ _ e hc▸hi))
  ·by_cases hcc:c'=c
   ·subst hcc; exact⟨_,hc'⟩
   ·obtain⟨w2,z2⟩:=I.cell y c' e
    exact⟨w2,z2.sameBut hs hcc⟩
  ·obtain⟨e,n,ne,nf,d⟩:=I.pin p hp
   refine⟨(hs.2 p.1 ?_).trans e,n,ne,nf,d⟩;intro q;rw[q,hoc] at e;have q':oc=p.2:=Option.some.inj e;exact d w' (by rw[<- q']; exact hocd)
theorem Zj {M:Model} {A:Around} {E:Value->Shared->Prop} {i:Nat} {x:Str} {v:V} {u:Value} {Q:Unit->Shared->Prop} (I:Inv X pins σ H s) (hN:X.N.Nodup) (hi:X.N[i]?=some x) (hx:NY X.env.scope x) (r:RelV v u)
  (h:∀ s',Inv X pins (σ.set i (some v)) H s'->Q () s') (hf:X.fn x=true\/X.env.scope.names.lookup x=some .local:=by first | exact .inl rfl | exact .inr rfl | assumption):wpAny M A (storeName X.env x u) Q E s:=
 Wh I hN hi hx r (fun s' I' _=>h s' I') hf
theorem Inv.call' {s':Shared} {ch:List Addr} (I:Inv X pins σ H s) (ho:s'.os=s.os) (u:Un (AI X.stack) ch H H' s.heap s'.heap) (hok:HOk X.prog X.w H' s'.heap) (hg:AllBare s'.gens)
  (hch:∀ b∈ch,(b∈X.ex\/X.s₀.heap.objs.size<=b)/\b≠X.env.locals/\(∀ x c,X.env.cells.lookup x=some c->c≠b)/\∀ p∈X.pn++pins,p.1≠b):Inv X pins σ H' s':=by
 obtain⟨h',g',d',t',o'⟩:=s';have e:o'=s.os:=ho;subst e;exact I.call (g':=g') (t':=t') (d':=d') u hok hg hch
end
abbrev XK:=Value->Option Addr->Hp->Prop
abbrev St:=List (Option V)
abbrev VK:=V->Hp->Prop
abbrev TE:=St->Hp->VK->Prop
abbrev TT:=St->Hp->(Bool->Hp->Prop)->Prop
abbrev TA:=St->Hp->(List V->Hp->Prop)->Prop
structure Nj where
 nx:St->Hp->Prop
 rt:VK
 bk:St->Hp->Prop:=fun _ _=>False
 ct:St->Hp->Prop:=fun _ _=>False
abbrev TS:=Nj->St->Hp->Prop
def EP (X:Cx) (pins:List (Addr×Obj)) (σ:St) (Q:VK) (u:Value) (s':Shared):Prop:=∃ v H',Inv X pins σ H' s'/\RelV v u/\Q v H'
def TP (X:Cx) (pins:List (Addr×Obj)) (σ:St) (Q:Bool->Hp->Prop) (b:Bool) (s':Shared):Prop:=∃ H',Inv X pins σ H' s'/\Q b H'
def AP (X:Cx) (pins:List (Addr×Obj)) (σ:St) (Q:List V->Hp->Prop) (us:List Value) (s':Shared):Prop:=∃ vs H',Inv X pins σ H' s'/\Vals vs us/\Q vs H'
def SP (X:Cx) (pins:List (Addr×Obj)) (D:Nj) (f:Flow) (s':Shared):Prop:=
 match f with
 | .next=>∃ σ' H',Inv X pins σ' H' s'/\D.nx σ' H'
 | .brk=>∃ σ' H',Inv X pins σ' H' s'/\D.bk σ' H'
 | .cont=>∃ σ' H',Inv X pins σ' H' s'/\D.ct σ' H'
 | .ret u=>∃ v σ' H',Inv X pins σ' H' s'/\RelV v u/\D.rt v H'
def PE (X:Cx) (e:Expr) (t:TE):Prop:=
 ∀ (pins:List (Addr×Obj)) (s:Shared) (σ:St) (H:Hp) (Q:VK),Inv X pins σ H s->t σ H Q->wpAny (model X.prog X.w) X.A (eval e X.env) (EP X pins σ Q) X.xe s
def PT (X:Cx) (e:Expr) (t:TT):Prop:=
 ∀ (pins:List (Addr×Obj)) (s:Shared) (σ:St) (H:Hp) (Q:Bool->Hp->Prop),Inv X pins σ H s->t σ H Q->wpAny (model X.prog X.w) X.A (isTrue e X.env (eval e X.env)) (TP X pins σ Q) X.xe s
def PW (X:Cx) (e:Expr) (t:TT):Prop:=
 ∀ (whole:Sem Value) (pins:List (Addr×Obj)) (s:Shared) (σ:St) (H:Hp) (Q:Bool->Hp->Prop),Inv X pins σ H s->t σ H Q->wpAny (model X.prog X.w) X.A (isTrue e X.env whole) (TP X pins σ Q) X.xe s
theorem PW.pt {X:Cx} {e:Expr} {t:TT} (h:PW X e t):PT X e t:=h _
def PA (X:Cx) (es:List Expr) (t:TA):Prop:=
 ∀ (pos:Pos) (pins:List (Addr×Obj)) (s:Shared) (σ:St) (H:Hp) (Q:List V->Hp->Prop),Inv X pins σ H s->t σ H Q->wpAny (model X.prog X.w) X.A (spliced (backTo pos (starEach es X.env))) (AP X pins σ Q) X.xe s
def PS (X:Cx) (st:Stmt) (t:TS):Prop:=
 ∀ (pins:List (Addr×Obj)) (s:Shared) (σ:St) (H:Hp) (D:Nj),Inv X pins σ H s->t D σ H->wpAny (model X.prog X.w) X.A (exec st X.env) (SP X pins D) X.xe s
def PSs (X:Cx) (st:List Stmt) (t:TS):Prop:=
 ∀ (pins:List (Addr×Obj)) (s:Shared) (σ:St) (H:Hp) (D:Nj),Inv X pins σ H s->t D σ H->wpAny (model X.prog X.w) X.A (execs st X.env) (SP X pins D) X.xe s
theorem Cs {α:Type} {t:Sem α} {Q Q':α->Shared->Prop} {M:Model} {A:Around} {E:Value->Shared->Prop} {s:Shared} (h:wpAny M A t Q E s) (hQ:∀ a s,Q a s->Q' a s):wpAny M A t Q' E s:=wpAny_mono h hQ fun _ _ x=>x
section
variable {X:Cx}
theorem RM {a b:Expr} {ta tb:TE} (ha:PE X a ta) (hb:PE X b tb) {pins:List (Addr×Obj)} {s:Shared} {σ:St} {H:Hp} {R:V->V->Hp->Prop} (I:Inv X pins σ H s) (h:ta σ H fun x H1=>tb σ H1 fun y H2=>R x y H2)
  {α:Type} {Q:α->Shared->Prop} {f:Value->Value->Sem α}
  (hf:∀ v u s2 x y H2,Inv X pins σ H2 s2->RelV x v->RelV y u->R x y H2->wpAny (model X.prog X.w) X.A (f v u) Q X.xe s2) :
  wpAny (model X.prog X.w) X.A (eval a X.env) (fun v s₁ => wpAny (model X.prog X.w) X.A (eval b X.env) (fun u s₂ => wpAny (model X.prog X.w) X.A (f v u) Q X.xe s₂) X.xe s₁) X.xe s:=by
 refine Cs (ha pins s σ H _ I h) fun v s1 ⟨x,H1,I1,r1,q1⟩=>?_;refine Cs (hb pins s1 σ H1 _ I1 q1) fun u s2 ⟨y,H2,I2,r2,q2⟩=>?_;exact hf v u s2 x y H2 I2 r1 r2 q2
def NI (i:Nat):TE:=fun σ H Q=>∃ v,σ[i]?=some (some v)/\Q v H
def tC (v:V):TE:=fun _ H Q=>Q v H
theorem KC {i:Nat} {x:Str} {pos:Pos} (hN:X.N[i]?=some x) (hv:OX X.env.scope x) (hd:(x==("__debug__" : Str))=false:=by decide) (hcd:(x==("__classdict__" : Str))=false:=by decide):PE X (.Name x pos) (NI i):=by
 intro pins s σ H Q I h;obtain⟨v,e,h⟩:=h;obtain⟨m,hn,hl⟩:=I.loc;obtain⟨u,r,l⟩:=hl i x v hN e hv;have fin:EP X pins σ Q u s:=⟨v,H,I,r,h⟩;rcases l with ⟨hk,hm⟩ | ⟨hk,c,hc,hcell⟩
 ·exact wpAny_Name (wpAny_loadName_local I.ok.kind hk hn hm fin) hd
 ·rcases hk with hk | hk
  ·exact wpAny_Name (wpAny_loadName_cell I.ok.kind hk hc hcell fin) hd
  ·exact wpAny_Name (wpAny_loadName_free I.ok.kind hk hc hcell fin hcd) hd
theorem Ak {i j pos}:PE X (.Constant (.int i) j pos) (tC (.int i)):=fun _ _ _ H _ I h=>wpAny_Constant_int ⟨.int i,H,I.tok _,⟨_,rfl⟩,h⟩
theorem Ej {b j pos}:PE X (.Constant (.bool b) j pos) (tC (.bl b)):=fun _ _ _ H _ I h=>Constant_bool ⟨.bl b,H,I,rfl,h⟩
theorem Gu {j pos}:PE X (.Constant .none j pos) (tC .non):=fun _ _ _ H _ I h=>Constant_none ⟨.non,H,I,rfl,h⟩
theorem Ca {x j pos}:PE X (.Constant (.str x) j pos) (tC (.str x)):=fun _ _ _ H _ I h=>Calls.Constant_str ⟨.str x,H,I.tok _,⟨_,rfl⟩,h⟩
def Gl (X:Cx) (x:Str):Prop:=X.env.kindOf x=some .globalImplicit
theorem Hd {E:Value->Shared->Prop} {pins:List (Addr×Obj)} {s:Shared} {σ:St} {H:Hp} {x:Str} {u:Value} {pos:Pos} {Q:Value->Shared->Prop} (I:Inv X pins σ H s) (hg:Gl X x) (hm:X.mg x=some u) (h:Q u s)
  (hd:(x==("__debug__" : Str))=false:=by decide):wpAny (model X.prog X.w) X.A (eval (.Name x pos) X.env) Q E s:=
 Calls.Name_function_global I.ok.kind hg (Calls.loadGlobal_global (by rw[I.ok.glob]; exact I.mod.glob.keeps I.bk) hm h) hd
theorem Hu {E:Value->Shared->Prop} {pins:List (Addr×Obj)} {s:Shared} {σ:St} {H:Hp} {x:Str} {u:Value} {pos:Pos} {Q:Value->Shared->Prop} (I:Inv X pins σ H s) (hg:Gl X x) (hm:X.mg x=none) (hv:zCB x=some u) (h:Q u s)
  (hn:x ≠ "__name__" := by decide) (hd:(x==("__debug__" : Str))=false:=by decide):wpAny (model X.prog X.w) X.A (eval (.Name x pos) X.env) Q E s:=by
 obtain⟨mb,h1,h2⟩:=I.mod.blt;exact Calls.Name_function_global I.ok.kind hg (Calls.loadGlobal_builtin (by rw[I.ok.glob]; exact I.mod.glob.keeps I.bk) hm (by rw[I.ok.blt]; exact h1.keeps I.bk) ((h2 x hn).trans hv) h) hd
theorem R9 {x:Str} {v:V} {u:Value} {pos:Pos} (hg:Gl X x) (hm:X.mg x=some u) (r:RelV v u) (hd:(x==("__debug__" : Str))=false:=by decide):PE X (.Name x pos) (tC v):=
 fun _ _ _ H _ I h=>Hd I hg hm ⟨v,H,I,r,h⟩ hd
theorem HA {x:Str} {v:V} {u:Value} {pos:Pos} (hg:Gl X x) (hm:X.mg x=none) (hv:zCB x=some u) (r:RelV v u) (hn:x ≠ "__name__" := by decide) (hd:(x==("__debug__" : Str))=false:=by decide):PE X (.Name x pos) (tC v):=
 fun _ _ _ H _ I h=>Hu I hg hm hv ⟨v,H,I,r,h⟩ hn hd
variable {a b:Expr} {ta tb:TE} {pos:Pos}
def PC (X:Cx) (op:CmpOp) (a b:Expr) (t:TE):Prop:=
 ∀ (pins:List (Addr×Obj)) (s:Shared) (σ:St) (H:Hp) (Q:VK),Inv X pins σ H s->t σ H Q ->
  wpAny (model X.prog X.w) X.A (eval a X.env) (fun v s₁ => wpAny (model X.prog X.w) X.A (eval b X.env) (fun u s₂ => wpAny (model X.prog X.w) X.A (compareOp op v u) (EP X pins σ Q) X.xe s₂) X.xe s₁) X.xe s
def tB (t:TE):TT:=fun σ H Q=>t σ H fun x H1=>∃ c,x = .bl c/\Q c H1
theorem OF {op:CmpOp} {t:TE} (h:PC X op a b t) (h1:behindInMarks op b=false:=by first | exact nobehind _ (by decide) (by decide) | rfl):PT X (.Compare a [op] [b] pos) (tB t):=by
 intro pins s σ H Q I hw;refine wpAny_isTrue_Compare1 (Cs (h pins s σ H _ I hw) fun v s1 h1=>Cs h1 fun u s2 h2=>Cs h2 fun c s3 ⟨x,H1,I1,r1,q1⟩=>?_) h1;obtain⟨d,rfl,q⟩:=q1;cases r1;exact wpAny_truthy_bool ⟨H1,I1,q⟩
theorem Cy {e:Expr} {t:TE} (h:PE X e t) (he:∀ whole,isTrue e X.env whole=(do let v <- whole; standAt e.pos; holding [v] (truthy v)):=by intro _; rfl):PT X e (tB t):=by
 intro pins s σ H Q I hw;refine isTrue_plain (Cs (h pins s σ H _ I hw) fun v s1 ⟨x,H1,I1,r1,q1⟩=>?_) (he _);obtain⟨d,rfl,q⟩:=q1;cases r1;exact wpAny_truthy_bool ⟨H1,I1,q⟩
variable {tA tB':TT} {rest:List Expr}
def OQ (t u:TT):TT:=fun σ H Q=>t σ H fun c H1=>if c=true then u σ H1 Q else Q false H1
def QV (t u:TT):TT:=fun σ H Q=>t σ H fun c H1=>if c=true then Q true H1 else u σ H1 Q
def QE (t:TT):TT:=fun σ H Q=>t σ H fun c H1=>Q (!c) H1
theorem Nl (ha:PT X a tA):PW X (.BoolOp .And [a] pos) tA:=by
 intro wh pins s σ H Q I h;refine isTrue_and (Cs (ha pins s σ H Q I h) fun c s1 e=>?_);cases c with
 | true=>exact isTrue_and_nil e
 | false=>exact e
theorem Gj (ha:PT X a tA):PW X (.BoolOp .Or [a] pos) tA:=by
 intro wh pins s σ H Q I h;refine isTrue_or (Cs (ha pins s σ H Q I h) fun c s1 e=>?_);cases c with
 | false=>exact isTrue_or_nil e
 | true=>exact e
theorem Og (ha:PT X a tA) (hb:PW X (.BoolOp .And (b::rest) pos) tB'):PW X (.BoolOp .And (a::b::rest) pos) (OQ tA tB'):=by
 intro wh pins s σ H Q I h;refine isTrue_and (Cs (ha pins s σ H _ I h) fun c s1 ⟨H1,I1,q1⟩=>?_);cases c with
 | true=>exact hb wh pins s1 σ H1 Q I1 q1
 | false=>exact⟨H1,I1,q1⟩
theorem Hg (ha:PT X a tA) (hb:PW X (.BoolOp .Or (b::rest) pos) tB'):PW X (.BoolOp .Or (a::b::rest) pos) (QV tA tB'):=by
 intro wh pins s σ H Q I h;refine isTrue_or (Cs (ha pins s σ H _ I h) fun c s1 ⟨H1,I1,q1⟩=>?_);cases c with
 | true=>exact⟨H1,I1,q1⟩
 | false=>exact hb wh pins s1 σ H1 Q I1 q1
theorem Dh (ha:PT X a tA):PT X (.UnaryOp .Not a pos) (QE tA):=by
 intro pins s σ H Q I h;exact isTrue_not (ha pins s σ H (fun c H1=>Q (!c) H1) I h)
def NV (ta tb:TE):TE:=fun σ H Q=>ta σ H fun x H1=>∃ c,x = .bl c/\if c=true then tb σ H1 Q else Q (.bl false) H1
def MA (ta:TE):TE:=fun σ H Q=>ta σ H fun x H1=>∃ c,x = .bl c/\Q (.bl (!c)) H1
theorem Xi {op} {t:TE} (h:PE X a t):PE X (.BoolOp op [a] pos) t:=fun pins s σ H Q I hw=>BoolOp_one (h pins s σ H Q I hw)
theorem Wk (ha:PE X a ta) (hb:PE X (.BoolOp .And (b::rest) pos) tb):PE X (.BoolOp .And (a::b::rest) pos) (NV ta tb):=by
 intro pins s σ H Q I h;refine BoolOp_and (Cs (ha pins s σ H _ I h) fun v s1 ⟨x,H1,I1,r1,q1⟩=>?_);obtain⟨c,rfl,q1⟩:=q1;cases r1;refine wpAny_truthy_bool ?_;cases c with
 | true=>exact hb pins s1 σ H1 Q I1 q1
 | false=>exact⟨.bl false,H1,I1,rfl,q1⟩
theorem G3 (ha:PE X a ta):PE X (.UnaryOp .Not a pos) (MA ta):=by
 intro pins s σ H Q I h;refine UnaryOp_ (Cs (ha pins s σ H _ I h) fun v s1 ⟨x,H1,I1,r1,q1⟩=>?_);obtain⟨c,rfl,q1⟩:=q1;cases r1;exact not_of (wpAny_truthy_bool ⟨.bl (!c),H1,I1,rfl,q1⟩)
def RD (t:TT) (ta tb:TE):TE:=fun σ H Q=>t σ H fun c H1=>if c=true then ta σ H1 Q else tb σ H1 Q
theorem Nc {c:Expr} (hc:PT X c tA) (ha:PE X a ta) (hb:PE X b tb):PE X (.IfExp c a b pos) (RD tA ta tb):=by
 intro pins s σ H Q I h;refine wpAny_IfExp (Cs (hc pins s σ H _ I h) fun d s1 ⟨H1,I1,q1⟩=>?_);cases d with
 | true=>exact ha pins s1 σ H1 Q I1 q1
 | false=>exact hb pins s1 σ H1 Q I1 q1
end
def SqL (K:zAa) (H:Hp) (a:Addr) (xs:List V):Prop:=
 Rd H a (.lst xs) \/
  ∃ (o:Obj) (its:Array Value) (n:Nat),K.lookup a=some o/\o.cls = .type "list"/\o.dict=none/\o.data = .seq its n/\its.size<=sizeLine/\Vals xs its.toList
def SqT (K:zAa) (H:Hp) (a:Addr) (xs:List V):Prop:=
 Rd H a (.tup xs) \/
  ∃ (o:Obj) (its:Array Value) (n:Nat),K.lookup a=some o/\o.cls = .type "tuple"/\o.data = .seq its n/\its.size<=sizeLine/\Vals xs its.toList
def PQ:Value->Option V
 | .none=>some .non
 | .bool b=>some (.bl b)
 | .int i _=>some (.int i)
 | .str x _=>some (.str x)
 | .bytes b _=>some (.byt b)
 | .float b _=>some (.flt b)
 | .ref a=>some (.ref a)
 | .type n=>some (.ty n)
 | _=>none
theorem RelV.abs {x:V} {u:Value} (r:RelV x u):PQ u=some x:=by
 cases x with
 | non=>cases r; rfl
 | bl _=>cases r; rfl
 | int _=>obtain⟨t,rfl⟩:=r; rfl
 | str _=>obtain⟨t,rfl⟩:=r; rfl
 | byt _=>obtain⟨t,rfl⟩:=r; rfl
 | flt _=>obtain⟨t,rfl⟩:=r; rfl
 | ref _=>cases r; rfl
 | ty _=>cases r; rfl
theorem RelV.inj {x y:V} {u:Value} (r:RelV x u) (q:RelV y u):x=y:=Option.some.inj (r.abs.symm.trans q.abs)
theorem Vals.inj:∀ {xs ys:List V} {us:List Value},Vals xs us->Vals ys us->xs=ys
 | _,_,_,.nil,.nil=>rfl
 | _,_,_,.cons r t,.cons r' t'=>by rw[r.inj r',Vals.inj t t']
section
variable {X:Cx} {pins:List (Addr×Obj)} {σ:St} {H:Hp} {s:Shared} {a:Addr} {xs ys:List V}
theorem SqL.of {K:zAa} (h:H a=some (.lst xs)):SqL K H a xs:=.inl (.inl h)
theorem SqT.of {K:zAa} (h:H a=some (.tup xs)):SqT K H a xs:=.inl (.inl h)
theorem Inv.list (I:Inv X pins σ H s) (h:SqL X.K H a xs):∃ its:List Value,Vals xs its/\PlainL s.heap a its.toArray/\xs.length<=sizeLine:=by
 rcases h with h | ⟨o,its,n,hk,hc,hd,hs,hz,r⟩
 ·obtain⟨z,its,n,r,e⟩:=h.ok I.hok
  exact⟨its,r,⟨_,n,e,rfl,rfl,rfl⟩,z⟩
 ·refine⟨its.toList,r,⟨o,n,I.kIn a o hk,hc,hd,by simpa using hs⟩,?_⟩
  have e:=r.length;simp only [zAC] at e
  lia
theorem Inv.tuple (I:Inv X pins σ H s) (h:SqT X.K H a xs):∃ its:List Value,Vals xs its/\IsTup s.heap a its.toArray/\xs.length<=sizeLine:=by
 rcases h with h | ⟨o,its,n,hk,hc,hs,hz,r⟩
 ·obtain⟨z,its,r,p⟩:=h.ok I.hok
  exact⟨its,r,p,z⟩
 ·refine⟨its.toList,r,⟨o,I.kIn a o hk,hc,n,by simpa using hs⟩,?_⟩
  have e:=r.length;simp only [zAC] at e
  lia
theorem Inv.list_inj (I:Inv X pins σ H s) (h:SqL X.K H a xs) (h':SqL X.K H a ys):xs=ys:=by
 obtain⟨its,r,⟨o,n,e,_,_,d⟩,_⟩:=I.list h;obtain⟨its',r',⟨o',n',e',_,_,d'⟩,_⟩:=I.list h';rw[e] at e'; cases e';rw[d] at d';injection d' with d1 _;have:its=its':=by simpa using congrArg Array.toList d1
 subst this;exact r.inj r'
theorem Inv.tuple_inj (I:Inv X pins σ H s) (h:SqT X.K H a xs) (h':SqT X.K H a ys):xs=ys:=by
 obtain⟨its,r,⟨o,e,_,n,d⟩,_⟩:=I.tuple h;obtain⟨its',r',⟨o',e',_,n',d'⟩,_⟩:=I.tuple h';rw[e] at e'; cases e';rw[d] at d';injection d' with d1 _;have:its=its':=by simpa using congrArg Array.toList d1
 subst this;exact r.inj r'
end
abbrev Cx.wish (X:Cx) (E:Value->Shared->Prop):Cx:={ X with xe:=E }
abbrev Cx.nox (X:Cx):Cx:=X.wish fun _ _=>False
theorem Cx.Ok.wish {X:Cx} (ok:X.Ok) (E:Value->Shared->Prop):(X.wish E).Ok:=
 ⟨ok.mod,ok.kind,ok.glob,ok.blt,ok.above,ok.inj,ok.has,ok.cab,ok.hd,ok.frames,ok.stk,ok.exf,ok.bs,ok.bsz,ok.noex,ok.exfs,ok.funs,ok.frf⟩
theorem Cx.Ok.unwish {X:Cx} {E:Value->Shared->Prop} (ok:(X.wish E).Ok):X.Ok:=
 ⟨ok.mod,ok.kind,ok.glob,ok.blt,ok.above,ok.inj,ok.has,ok.cab,ok.hd,ok.frames,ok.stk,ok.exf,ok.bs,ok.bsz,ok.noex,ok.exfs,ok.funs,ok.frf⟩
section
variable {X:Cx} {pins:List (Addr×Obj)} {σ:St} {H:Hp} {s:Shared} {E:Value->Shared->Prop}
theorem Inv.wish (I:Inv X pins σ H s) (E:Value->Shared->Prop):Inv (X.wish E) pins σ H s:=⟨I.ok.wish E,I.os,I.bare,I.base,I.loc,I.cell,I.free,I.freeC,I.pin,I.hok,I.len⟩
theorem Inv.unwish (I:Inv (X.wish E) pins σ H s):Inv X pins σ H s:=⟨I.ok.unwish,I.os,I.bare,I.base,I.loc,I.cell,I.free,I.freeC,I.pin,I.hok,I.len⟩
theorem SP.unwish {D:Nj} {f:Flow} {s':Shared} (h:SP (X.wish E) pins D f s'):SP X pins D f s':=by
 cases f with
 | next=>obtain⟨σ',H',I,q⟩:=h; exact⟨σ',H',I.unwish,q⟩
 | brk=>obtain⟨σ',H',I,q⟩:=h; exact⟨σ',H',I.unwish,q⟩
 | cont=>obtain⟨σ',H',I,q⟩:=h; exact⟨σ',H',I.unwish,q⟩
 | ret u=>obtain⟨v,σ',H',I,r,q⟩:=h; exact⟨v,σ',H',I.unwish,r,q⟩
theorem PSs.nox {st:List Stmt} {t:TS} (h:PSs X.nox st t):PSs X st t:=fun pins s σ H D I hw=>
 wpAny_mono (h pins s σ H D (I.wish _) hw) (fun _ _ q=>q.unwish) fun _ _ z=>False.elim z
end
section
variable {X:Cx} {st:Stmt} {rest:List Stmt} {t u:TS} {e:Expr} {te:TE} {pos:Pos}
def MU:TS:=fun D σ H=>D.nx σ H
def JZ (t u:TS):TS:=fun D σ H=>t { D with nx:=u D } σ H
theorem Bl:PSs X [] MU:=fun _ _ σ H _ I h=>wpAny_execs_nil ⟨σ,H,I,h⟩
theorem Ad (h1:PS X st t) (h2:PSs X rest u):PSs X (st::rest) (JZ t u):=by
 intro pins s σ H D I h;refine wpAny_execs_cons (Cs (h1 pins s σ H { D with nx:=u D } I h) fun f s1 q=>?_);cases f with
 | next=>
  obtain⟨σ',H',I',q⟩:=q;exact h2 pins s1 σ' H' D I' q
 | ret v=>exact q
 | brk=>exact q
 | cont=>exact q
theorem Ao (h1:PS X st t):PSs X [st] t:=by
 intro pins s σ H D I h;refine wpAny_execs_cons (Cs (h1 pins s σ H D I h) fun f s1 q=>?_);cases f with
 | next=>exact wpAny_execs_nil q
 | ret v=>exact q
 | brk=>exact q
 | cont=>exact q
theorem Inv.quiet {pins:List (Addr×Obj)} {σ:St} {H:Hp} {s:Shared} (I:Inv X pins σ H s):interactive X.env=false:=by simp [interactive,I.ok.kind]
def MX (te:TE):TS:=fun D σ H=>te σ H fun _ H1=>D.nx σ H1
theorem Cp (he:PE X e te) (hs:swapsWith e none pos.line X.env=pure false:=by rfl):PS X (.Expr e pos) (MX te):=by
 intro pins s σ H D I h;exact wpAny_Expr_any (Cs (he pins s σ H _ I h) fun v s1 ⟨x,H1,I1,r1,q1⟩=>⟨σ,H1,I1,q1⟩) I.quiet hs
def OO (te:TE):TS:=fun D σ H=>te σ H D.rt
theorem Be (he:PE X e te):PS X (.Return (some e) pos) (OO te):=by
 intro pins s σ H D I h;exact wpAny_Return_some (Cs (he pins s σ H _ I h) fun v s1 ⟨x,H1,I1,r1,q1⟩=>⟨x,σ,H1,I1,r1,q1⟩)
def MY (c:TT) (t u:TS):TS:=fun D σ H=>c σ H fun b H1=>if b=true then t D σ H1 else u D σ H1
theorem Bv {c:Expr} {a b:List Stmt} {tc:TT} (hc:PT X c tc) (ha:PSs X a t) (hb:PSs X b u):PS X (.If c a b pos) (MY tc t u):=by
 intro pins s σ H D I h;refine wpAny_If (Cs (hc pins s σ H _ I h) fun d s1 ⟨H1,I1,q1⟩=>?_);cases d with
 | true=>exact ha pins s1 σ H1 D I1 q1
 | false=>exact hb pins s1 σ H1 D I1 q1
def KP:TS:=fun _ _ _=>False
theorem Em:PS X st KP:=fun _ _ _ _ _ _ h=>h.elim
end
abbrev TG:=V->St->Hp->(St->Hp->Prop)->Prop
abbrev IC:=List V->St->Hp->(St->Hp->Prop)->Prop
def PG (X:Cx) (target:Expr) (t:TG):Prop:=
 ∀ (pins:List (Addr×Obj)) (s:Shared) (σ:St) (H:Hp) (v:V) (u:Value) (Q:St->Hp->Prop),Inv X pins σ H s->RelV v u->t v σ H Q ->
  wpAny (model X.prog X.w) X.A (assign target X.env u) (fun _ s'=>∃ σ' H',Inv X pins σ' H' s'/\Q σ' H') X.xe s
def NN (X:Cx) (ts:List Expr) (t:IC):Prop:=
 ∀ (pins:List (Addr×Obj)) (s:Shared) (σ:St) (H:Hp) (vs:List V) (us:List Value) (Q:St->Hp->Prop),Inv X pins σ H s->Vals vs us->t vs σ H Q ->
  wpAny (model X.prog X.w) X.A (assignInOrder ((assignEach ts X.env).map (·.2)) us) (fun _ s'=>∃ σ' H',Inv X pins σ' H' s'/\Q σ' H') X.xe s
abbrev KW:=V->V->V->Hp->(Hp->Prop)->Prop
def MJ (X:Cx) (t:KW):Prop:=
 ∀ (pins:List (Addr×Obj)) (s:Shared) (σ:St) (H:Hp) (o i v:V) (ov iv u:Value) (Q:Hp->Prop),Inv X pins σ H s->RelV o ov->RelV i iv->RelV v u->t o i v H Q ->
  wpAny (model X.prog X.w) X.A (setItem ov iv u) (fun _ s'=>∃ H',Inv X pins σ H' s'/\Q H') X.xe s
section
variable {X:Cx} {pos:Pos}
def Ey (i:Nat):TG:=fun v σ H Q=>Q (σ.set i (some v)) H
theorem Az {i:Nat} {x:Str} (hN:X.N.Nodup) (hi:X.N[i]?=some x) (hx:NY X.env.scope x) (hf:X.fn x=true\/X.env.scope.names.lookup x=some .local:=by first | exact .inl rfl | exact .inr rfl | assumption):PG X (.Name x pos) (Ey i):=by
 intro pins s σ H v u Q I r h;exact wpAny_assign_Name (Zj I hN hi hx r (fun s' I'=>⟨_,H,I',h⟩) hf)
def EJ:IC:=fun vs σ H Q=>vs=[]/\Q σ H
def Mv (t:TG) (u:IC):IC:=fun vs σ H Q=>∃ v r,vs=v::r/\t v σ H fun σ' H'=>u r σ' H' Q
theorem Da:NN X [] EJ:=by
 intro pins s σ H vs us Q I r h;obtain⟨e,h⟩:=h;subst e;cases r;exact assignInOrder_nil ⟨σ,H,I,h⟩
theorem Bj {e:Expr} {es:List Expr} {t:TG} {u:IC} (h1:PG X e t) (h2:NN X es u)
  (hs:(assignEach (e::es) X.env).map (·.2)=assign e X.env::(assignEach es X.env).map (·.2):=by rfl):NN X (e::es) (Mv t u):=by
 intro pins s σ H vs us Q I r h;obtain⟨v,vr,e1,h⟩:=h;subst e1;cases r with
 | cons r rr=>
  rw[hs];refine assignInOrder_cons (Cs (h1 pins s σ H _ _ _ I r h) fun _ s1 ⟨σ1,H1,I1,q1⟩=>?_);exact h2 pins s1 σ1 H1 _ _ Q I1 rr q1
def AR (K:zAa) (n:Nat) (t:IC):TG:=fun v σ H Q=>∃ a xs,v = .ref a/\SqT K H a xs/\xs.length=n/\t xs σ H Q
theorem Dw {es:List Expr} {k:Nat} {t:IC} {n:Nat} (hc:X.calm=true) (h:NN X es t)
  (hn:(assignEach es X.env).length=n:=by rfl) (hst:(assignEach es X.env).findIdx? (·.1)=none:=by rfl):PG X (.Tuple es k pos) (AR X.K n t):=by
 intro pins s σ H v u Q I r hw;obtain⟨a,xs,e1,hq,hl,hw⟩:=hw;subst e1;cases r;obtain⟨its,rv,ht,hz⟩:=I.tuple hq;refine assign_Tuple_tuple (I.ok.hd hc) ht (by simp [hn,<- hl,rv.length]) hst fun h' hx=>?_;have I1:Inv X pins σ H { s with heap:=h' }:=I.kept (t':=s.toks) fun b o e=>hx b o (zAu (zAq e)) e;exact h pins _ σ H xs _ Q I1 (by simpa using rv) hw
def OJ (to ti:TE) (t:KW):TG:=fun v σ H Q=>to σ H fun o H1=>ti σ H1 fun i H2=>t o i v H2 fun H3=>Q σ H3
theorem FS {o i:Expr} {to ti:TE} {t:KW} (ho:PE X o to) (hi:PE X i ti) (hs:MJ X t)
  (ha:∀ v,assign (.Subscript o i pos) X.env v=(do
   let ov <- holding [v] (eval o X.env)
   let iv <- holding [v,ov] (eval i X.env)
   standAt pos
   holding [v,ov,iv] (setItem ov iv v)
   release [v,ov,iv] []):=by intro _; rfl):PG X (.Subscript o i pos) (OJ to ti t):=by
 intro pins s σ H v u Q I r h;rw[ha];refine zCy (wpAny_holding (Cs (ho pins s σ H _ I h) fun ov s1 ⟨x,H1,I1,r1,q1⟩=>?_));refine zCy (wpAny_holding (Cs (hi pins s1 σ H1 _ I1 q1) fun iv s2 ⟨y,H2,I2,r2,q2⟩=>?_));refine zCy (wpAny_standAt (zCy (wpAny_holding (Cs (hs pins s2 σ H2 x y v ov iv u _ I2 r1 r2 r q2) fun _ s3 ⟨H3,I3,q3⟩=>?_))));exact wpAny_release ⟨σ,H3,I3,q3⟩
def HP (te:TE) (g:TG):TS:=fun D σ H=>te σ H fun x H1=>g x σ H1 D.nx
theorem Mb {tg e:Expr} {te:TE} {g:TG} (he:PE X e te) (hg:PG X tg g) (hs:swapsWithSole [tg] e pos.line X.env=pure false:=by rfl) (hw:swappedStores [tg] e X.env=pure none:=by rfl)
  (h1:(assignEach [tg] X.env).map (·.2)=[assign tg X.env]:=by rfl):PS X (.Assign [tg] e pos) (HP te g):=by
 intro pins s σ H D I h;refine wpAny_Assign_stores (Cs (he pins s σ H _ I h) fun v s1 ⟨x,H1,I1,r1,q1⟩=>?_) hs hw;rw[h1];exact Cs (hg pins s1 σ H1 x v _ I1 r1 q1) fun _ s2 q=>q
theorem Bf {i:Nat} {x:Str} {e:Expr} {te:TE} {pos':Pos} (hN:X.N.Nodup) (hi:X.N[i]?=some x) (hx:NY X.env.scope x) (he:PE X e te) (hs:swapsWith e (some (.Name x pos')) pos.line X.env=pure false:=by rfl) (hf:X.fn x=true\/X.env.scope.names.lookup x=some .local:=by first | exact .inl rfl | exact .inr rfl | assumption) :
  PS X (.Assign [.Name x pos'] e pos) (HP te (Ey i)):=by
 intro pins s σ H D I h;refine wpAny_Assign_Name (Cs (he pins s σ H _ I h) fun v s1 ⟨y,H1,I1,r1,q1⟩=>?_) hs;exact Zj I1 hN hi hx r1 (fun s2 I2=>⟨_,H1,I2,q1⟩) hf
end
structure It where
 go:Nat->Hp->Prop
 yld:Nat->Hp->V->Hp->Prop
 stop:Nat->Hp->Prop
def Np (X:Cx) (pins:List (Addr×Obj)) (H:Hp) (b:Addr):Prop:=
 H b=none/\b≠X.env.locals/\b∉X.fs/\(b∈X.ex\/X.s₀.heap.objs.size<=b)/\(∀ x c,X.env.cells.lookup x=some c->c≠b)/\∀ p∈X.pn++pins,p.1≠b
theorem Inv.fpOk {X:Cx} {pins:List (Addr×Obj)} {σ:St} {H H':Hp} {s:Shared} {b:Addr} (I:Inv X pins σ H s) (hb:s.heap.objs.size<=b) (hn:H' b=none):Np X pins H' b:=by
 refine⟨hn,zBk (zAH I.lt hb),I.nofs hb,.inr (zAG I.sz hb),fun x c e z=>?_,fun p hp z=>?_⟩
 ·obtain⟨v,q⟩:=I.cell x c e
  exact absurd (zAH q.lt (by rw[z]; exact hb)) (zBo _)
 ·exact absurd (zAH (zAq (I.pin p hp).1) (by rw[z]; exact hb)) (zBo _)
structure Wl (P:Program) (w:World) (K:zAa) (tg:Expr) (J:It) (fp:List Addr) (it:Addr) (tn:Nat->Heap->Prop):Prop where
 mem:it∈fp
 obj:∀ i h,tn i h->∀ b∈fp,∃ o,h.get? b=some o/\∀ v,o.data ≠ .cell v
 keep:∀ i h h',tn i h->(∀ b∈fp,∀ o,h.get? b=some o->h'.get? b=some o)->tn i h'
 item:∀ (X:Cx),X.prog=P->X.w=w->X.K=K->X.calm=true->∀ (i:Nat) (pins:List (Addr×Obj)) (s:Shared) (σ:St) (H:Hp) (E:Value->Shared->Prop),Inv X pins σ H s->(∀ b∈fp,Np X pins H b)->tn i s.heap->J.go i H ->
  wpAny (model P w) X.A (pyNext (.ref it)) (fun r s1=>∃ u,r=some u /\
   wpAny (model P w) X.A (letOwnedTupleGo tg (.ref it) u) (fun _ s2=>∃ x H',Inv X pins σ H' s2/\RelV x u/\J.yld i H x H'/\tn (i+1) s2.heap/\∀ b∈fp,H' b=none) E s1) E s
 done:∀ (X:Cx),X.prog=P->X.w=w->X.K=K->X.calm=true->∀ (i:Nat) (pins:List (Addr×Obj)) (s:Shared) (σ:St) (H:Hp) (E:Value->Shared->Prop),Inv X pins σ H s->(∀ b∈fp,Np X pins H b)->tn i s.heap->J.stop i H ->
  wpAny (model P w) X.A (pyNext (.ref it)) (fun r s1=>r=none/\Inv X pins σ H s1) E s
 self:∀ (A:Around) (i:Nat) (s:Shared) (Q:Value->Shared->Prop) (E:Value->Shared->Prop),tn i s.heap->Q (.ref it) s->wpAny (model P w) A (pyIter (.ref it)) Q E s
abbrev TI:=St->Hp->(It->Hp->Prop)->Prop
def QI (X:Cx) (pins:List (Addr×Obj)) (σ:St) (tg:Expr) (R:It->Hp->Prop) (itv:Value) (s2:Shared):Prop:=
 ∃ (it:Addr) (fp:List Addr) (tn:Nat->Heap->Prop) (J:It) (H':Hp),itv = .ref it/\Inv X pins σ H' s2/\Wl X.prog X.w X.K tg J fp it tn/\tn 0 s2.heap/\(∀ b∈fp,Np X pins H' b)/\R J H'
def PI (X:Cx) (tg iter:Expr) (wi:TI):Prop:=
 ∀ (pins:List (Addr×Obj)) (s:Shared) (σ:St) (H:Hp) (R:It->Hp->Prop),Inv X pins σ H s->wi σ H R ->
  wpAny (model X.prog X.w) X.A (eval iter X.env) (fun v s1=>wpAny (model X.prog X.w) X.A (pyIter v) (QI X pins σ tg R) X.xe s1) X.xe s
theorem R6 {M:Model} {A:Around} {E:Value->Shared->Prop} {s:Shared} {tg:Expr} {it:Addr} {u:Value} {o:Obj} {n:String} {vs:Array Value} {Q:Unit->Shared->Prop} (ho:s.heap.get? it=some o) (hc:o.cls = .type n) (hd:o.data = .fields vs)
  (hn:["enumerate", "zip", "dict_itemiterator", "dict_reverseitemiterator", "odict_iterator", "itertools.zip_longest", "itertools.pairwise"].contains n=false) (hQ:Q () s):wpAny M A (letOwnedTupleGo tg (.ref it) u) Q E s:=by
 unfold letOwnedTupleGo;cases tg <;> first
  | exact zCz hQ
  | (cases u <;> first
    | exact zCz hQ
    | (refine zCy (wpAny_load ho ?_)
       rw[hc,hd];show wpAny M A (if (["enumerate", "zip", "dict_itemiterator", "dict_reverseitemiterator", "odict_iterator", "itertools.zip_longest", "itertools.pairwise"].contains n&&vs[0]?==some (rawInt _))=true then _ else _) Q E s;rw[if_neg (by intro h; rw[hn,Bool.false_and] at h; cases h)];exact zCz hQ))
def LQ (K:zAa) (a:Addr):It:=
 ⟨fun i H=>∃ xs x,SqL K H a xs/\xs[i]?=some x,fun i H x H'=>H'=H/\∀ xs,SqL K H a xs->xs[i]?=some x,fun i H=>∃ xs,SqL K H a xs/\xs.length<=i⟩
def LD (lo:Int) (n:Nat):It:=⟨fun i _=>i<n,fun i H x H'=>H'=H/\x = .int (lo+i),fun i _=>n<=i⟩
theorem X5 {P:Program} {w:World} {K:zAa} {tg:Expr} (a it:Addr):Wl P w K tg (LQ K a) [it] it (fun i h=>h.IsListIter it a i) where
 mem:=by simp
 obj:=fun i h st b hb=>by
  have e:b=it:=by simpa using hb
  subst e;obtain⟨o,e,c,d⟩:=st;exact⟨o,e,fun v z=>by rw[d] at z; cases z⟩
 keep:=fun i h h' st k=>st.at fun o e=>k it (by simp) o e
 item:=by
  intro X hP hw hK hc i pins s σ H E I hf st hg;subst hP hw hK;obtain⟨xs,x,hq,hx⟩:=hg;obtain⟨its,rv,p,hz⟩:=I.list hq;obtain⟨u,hu,ru⟩:=rv.get hx;obtain⟨f0,f1,f2,f3,f4,f5⟩:=hf it (by simp);refine wpAny_pyNext_list_item st p.isList (x:=u) (by simpa using hu) fun h' st' sb=>?_;have I1:Inv X pins σ H { s with heap:=h' }:=I.turned (t':=s.toks) (fun b o hb e=>(sb.2 b hb).trans e) f0 f1 f3 f4 f5;obtain⟨o,e,c,d⟩:=id st';exact⟨u,rfl,R6 (s:={ s with heap:=h' }) e c d (by decide) ⟨x,H,I1,ru,⟨rfl,fun ys hy=>by rw[I.list_inj hy hq]; exact hx⟩,st',fun b hb=>(hf b hb).1⟩⟩
 done:=by
  intro X hP hw hK hc i pins s σ H E I hf st hg;subst hP hw hK;obtain⟨xs,hq,hx⟩:=hg;obtain⟨its,rv,p,hz⟩:=I.list hq;obtain⟨f0,f1,f2,f3,f4,f5⟩:=hf it (by simp);have hl:=rv.length;exact wpAny_pyNext_list_end (I.ok.hd hc) st p.isList (by simp; lia) fun h' eb=>⟨rfl,I.turned (t':=s.toks) (fun b o hb e=>eb b o hb e) f0 f1 f3 f4 f5⟩
 self:=fun _ _ _ _ _ st h=>wpAny_pyIter_listiter st h
theorem M4 {P:Program} {w:World} {K:zAa} {tg:Expr} (it:Addr) (lo:Int) (n:Nat):Wl P w K tg (LD lo n) [it] it (fun i h=>IsRangeIter h it (lo+(i:Nat)*1) ((n:Int)-(i:Nat)) 1) where
 mem:=by simp
 obj:=fun i h st b hb=>by
  have e:b=it:=by simpa using hb
  subst e;exact⟨_,st,fun v z=>by
   have z':Data.fields _=Data.cell v:=z;cases z'⟩
 keep:=fun i h h' st k=>k it (by simp) _ st
 item:=by
  intro X hP hw hK hc i pins s σ H E I hf st hg;subst hP hw hK;obtain⟨f0,f1,f2,f3,f4,f5⟩:=hf it (by simp);have W:=Walks.range (prog:=X.prog) (w:=X.w) (I.ok.hd hc) it lo 1 n;refine W.item i s _ _ hg st fun v h' tk hv st' kk=>?_;obtain⟨t,rfl⟩:=hv;have I1:Inv X pins σ H { s with heap:=h',toks:=tk }:=I.turned (fun b o hb e=>kk b o (by simpa using hb) e) f0 f1 f3 f4 f5;refine⟨_,rfl,R6 (s:={ s with heap:=h',toks:=tk }) (n := "range_iterator") st' rfl rfl (by decide) ⟨.int (lo+i),H,I1,⟨t,?_⟩,⟨rfl,rfl⟩,st',fun b hb=>(hf b hb).1⟩⟩;rw[Int.mul_one]
 done:=by
  intro X hP hw hK hc i pins s σ H E I hf st hg;subst hP hw hK;obtain⟨f0,f1,f2,f3,f4,f5⟩:=hf it (by simp);exact wpAny_pyNext_range_end (I.ok.hd hc) st (by have:n<=i:=hg; lia) fun h' eb=>⟨rfl,I.turned (t':=s.toks) (fun b o hb e=>eb b o hb e) f0 f1 f3 f4 f5⟩
 self:=fun _ _ _ _ _ st h=>wpAny_pyIter_rangeiter st h
section
variable {X:Cx} {tg:Expr}
def LR (K:zAa) (tl:TE):TI:=fun σ H R=>tl σ H fun x H1=>∃ a,x = .ref a/\(∃ xs,SqL K H1 a xs)/\R (LQ K a) H1
theorem Cb {l:Expr} {tl:TE} (hl:PE X l tl):PI X tg l (LR X.K tl):=by
 intro pins s σ H R I h;refine Cs (hl pins s σ H _ I h) fun v s1 ⟨x,H1,I1,r1,q1⟩=>?_;obtain⟨a,e,⟨xs,hq⟩,q⟩:=q1;subst e;cases r1;obtain⟨its,rv,p,hz⟩:=I1.list hq;refine wpAny_pyIter_list p.isList ?_;refine⟨s1.heap.objs.size,[s1.heap.objs.size],_,_,H1,rfl,I1.kept (t':=s1.toks) fun b o e=>zAe _ e,X5 a _,⟨_,zAt _ rfl,rfl,rfl⟩,fun b hb=>?_,q⟩;have e:b=s1.heap.objs.size:=by simpa using hb
 subst e;exact I1.fpOk (zAn _) (I1.hok.fresh (zAn _))
theorem FG {pins:List (Addr×Obj)} {σ:St} {H:Hp} {s:Shared} {R:It->Hp->Prop} {E:Value->Shared->Prop} {lo hi:Int} {t u v:Tok} {tk:Nat} (I:Inv X pins σ H s) (h1 : -(2^62)<=lo) (h2:lo<2^62) (h3 : -(2^62)<=hi) (h4:hi<2^62)
  (q:R (LD lo (hi-lo).toNat) H):wpAny (model X.prog X.w) X.A (pyIter (.ref s.heap.objs.size)) (QI X pins σ tg R) E { s with heap:=s.heap.push { cls:=.type "range",data:=.fields #[.int lo t,.int hi u,.int 1 v] },toks:=tk }:=by
 refine wpAny_pyIter_range (IsRange.new ..) (small_one h1 h2 h3 h4) ?_;have I1:Inv X pins σ H { s with heap:=s.heap.push { cls:=.type "range",data:=.fields #[.int lo t,.int hi u,.int 1 v] },toks:=tk }:=I.kept fun b o e=>zAe _ e;refine⟨(s.heap.push { cls:=.type "range",data:=.fields #[.int lo t,.int hi u,.int 1 v] }).objs.size,[(s.heap.push { cls:=.type "range",data:=.fields #[.int lo t,.int hi u,.int 1 v] }).objs.size],_,_,H,rfl,
  I1.kept (t':=tk) fun b o e=>zAe _ e,M4 _ lo (hi-lo).toNat,?_,fun b hb=>?_,q⟩
 ·have e1:lo+((0:Nat):Int)*1=lo:=by simp
  have e2:(((hi-lo).toNat:Nat):Int)-((0:Nat):Int)=Builtin.Range.rangeSize lo hi 1:=by rw[rangeSize_one]; split <;> lia
  show IsRangeIter _ _ (lo+((0:Nat):Int)*1) ((((hi-lo).toNat:Nat):Int)-((0:Nat):Int)) 1;rw[e1,e2];exact zAt _ rfl
 ·have e:b=(s.heap.push { cls:=.type "range",data:=.fields #[.int lo t,.int hi u,.int 1 v] }).objs.size:=by simpa using hb
  subst e;exact I1.fpOk (zAn _) (I1.hok.fresh (zAn _))
def LV (ta:TA):TI:=fun σ H R=>ta σ H fun vs H1=>∃ j:Int,vs=[.int j]/\-(2^62)<=j/\j<2^62/\R (LD 0 j.toNat) H1
theorem Cw {a:Expr} {ta:TA} {p pos:Pos} (hg:Gl X "range") (hm:X.mg "range" = none) (ha:PA X [a] ta) (hs:starEach [a] X.env=[(false,eval a X.env)]:=by rfl):PI X tg (.Call (.Name "range" p) [a] [] pos) (LV ta):=by
 intro pins s σ H R I h;refine Call_ (Hu I hg hm boot_range (PyProof.Rows.callWith_type1 (Cs (ha pos pins s σ H _ I h) fun us s1 ⟨vs,H1,I1,r1,q1⟩=>?_) hs rfl));obtain⟨j,e,q1,q2,q⟩:=q1;subst e;cases r1 with
 | cons r rr=>
  cases rr
  obtain⟨t,rfl⟩:=r;exact call_range_1 (FG I1 (by lia) (by lia) q1 q2 (by simpa using q))
def PY (wi:TI) (g:TG) (tb:TS):TS:=fun D σ H=>wi σ H fun J H1=>∃ W:Nat->Nat->St->Hp->Prop,(∃ m,W 0 m σ H1)/\∀ i m σ H,W i m σ H ->
 (J.stop i H/\D.nx σ H)\/(J.go i H/\∃ N:St->Hp->Prop,(∀ σ' H',N σ' H'->∃ m',m'<m/\W (i+1) m' σ' H')/\∀ x H',J.yld i H x H'->g x σ H' fun σ2 H2=>tb { D with nx:=N,ct:=N,bk:=D.nx } σ2 H2)
def Tb (fp:List Addr) (h:Heap):List (Addr×Obj):=fp.filterMap fun b=>(h.get? b).map fun o=>(b,o)
theorem Iq {fp:List Addr} {h:Heap} {b:Addr} {o:Obj} (hb:b∈fp) (e:h.get? b=some o):(b,o)∈Tb fp h:=List.mem_filterMap.mpr ⟨b,hb,by rw[e]; rfl⟩
theorem Y0 {fp:List Addr} {h:Heap} {p:Addr×Obj} (hp:p∈Tb fp h):p.1∈fp/\h.get? p.1=some p.2:=by
 obtain⟨b,hb,e⟩:=List.mem_filterMap.mp hp;cases q:h.get? b with
 | none=>rw[q] at e; cases e
 | some o=>
  rw[q] at e;have e':(b,o)=p:=Option.some.inj e;subst e';exact⟨hb,q⟩
theorem Inv.pinned {pins:List (Addr×Obj)} {σ:St} {H:Hp} {s:Shared} {fp:List Addr} (I:Inv X pins σ H s) (hf:∀ b∈fp,Np X pins H b) (ho:∀ b∈fp,∃ o,s.heap.get? b=some o/\∀ v,o.data ≠ .cell v):Inv X (pins++Tb fp s.heap) σ H s:=
 I.pins_of fun p hp=>(zAA.mp hp).elim (fun z=>I.pin p (zAM _ z)) fun z=>by
  obtain⟨hb,e⟩:=Y0 z;obtain⟨f0,f1,f2,_⟩:=hf p.1 hb;obtain⟨o,e',d⟩:=ho p.1 hb;rw[e] at e'; cases e';exact⟨e,f0,f1,f2,d⟩
theorem Inv.unpinned {pins pl:List (Addr×Obj)} {σ:St} {H:Hp} {s:Shared} (I:Inv X (pins++pl) σ H s):Inv X pins σ H s:=I.pins_of fun p hp=>I.pin p (zAM _ (zBX _ hp))
theorem Cm {iter:Expr} {body:List Stmt} {wi:TI} {g:TG} {tb:TS} {pos:Pos} (hp:PassesOwn (model X.prog X.w) X.A X.env X.xe) (hc:X.calm=true) (hi:PI X tg iter wi) (hg:PG X tg g) (hb:PSs X body tb)
  (hs:∀ x,foldedSetIterable iter X.env x=pure x:=by intro _; rfl):PS X (.For tg iter body [] pos) (PY wi g tb):=by
 intro pins s σ H D I h;refine wpAny_For (Cs (hi pins s σ H _ I h) fun v s1 h1=>Cs h1 fun itv s2 h2=>?_) hs;obtain⟨it,fp,tn,J,H2,e,I2,T,st2,f2,W,⟨m0,w0⟩,turn⟩:=h2;subst e;have stat:∀ {H':Hp},(∀ b∈fp,H' b=none)->∀ b∈fp,Np X pins H' b:=fun hn b hb=>⟨hn b hb,(f2 b hb).2⟩;refine codeAny_forLoop_any (fun n s'=>∃ i σ' H',Inv X pins σ' H' s'/\tn i s'.heap/\(∀ b∈fp,H' b=none)/\W i n σ' H') ?_ m0 ⟨0,σ,H2,I2,st2,fun b hb=>(f2 b hb).1,w0⟩;rintro n s3 ⟨i,σ3,H3,I3,st3,fr3,w3⟩;rcases turn i n σ3 H3 w3 with ⟨stop,qn⟩ | ⟨go,N,hN,step⟩
 ·refine wpAny_passesOwn hp (Cs (T.done X rfl rfl rfl hc i pins s3 σ3 H3 X.xe I3 (stat fr3) st3 stop) fun r s4 ⟨hr,I4⟩=>?_)
  subst hr;exact wpAny_execs_nil ⟨σ3,H3,I4,qn⟩
 ·refine wpAny_passesOwn hp (Cs (T.item X rfl rfl rfl hc i pins s3 σ3 H3 X.xe I3 (stat fr3) st3 go) fun r s4 ⟨u,hr,h4⟩=>?_)
  subst hr;refine wpAny_passesOwn hp (Cs h4 fun _ s5 ⟨x,H5,I5,r5,y5,st5,fr5⟩=>?_);have I5':=I5.pinned (stat fr5) (T.obj _ _ st5);refine wpAny_passesOwn hp (Cs (hg _ s5 σ3 H5 x u _ I5' r5 (step x H5 y5)) fun _ s6 ⟨σ6,H6,I6,q6⟩=>?_);refine wpAny_passesOwn hp (Cs (hb _ s6 σ6 H6 _ I6 q6) fun f s7 q7=>?_);have again:∀ {σ7:St} {H7:Hp},Inv X (pins++Tb fp s5.heap) σ7 H7 s7->N σ7 H7->∃ m,m<n/\∃ i σ' H',Inv X pins σ' H' s7/\tn i s7.heap/\(∀ b∈fp,H' b=none)/\W i m σ' H':=fun {σ7 H7} I7 n7=>by
   obtain⟨m',hm,w7⟩:=hN σ7 H7 n7;refine⟨m',hm,i+1,σ7,H7,I7.unpinned,T.keep _ _ _ st5 fun b hb o e=>(I7.pin (b,o) (zAM _ (zAM _ (Iq hb e)))).1,fun b hb=>?_,w7⟩;obtain⟨o,e,d⟩:=T.obj _ _ st5 b hb;exact (I7.pin (b,o) (zAM _ (zAM _ (Iq hb e)))).2.1
  cases f with
  | next=>obtain⟨σ7,H7,I7,n7⟩:=q7; exact again I7 n7
  | cont=>obtain⟨σ7,H7,I7,n7⟩:=q7; exact again I7 n7
  | brk=>obtain⟨σ7,H7,I7,q7⟩:=q7; exact⟨σ7,H7,I7.unpinned,q7⟩
  | ret v=>obtain⟨x7,σ7,H7,I7,r7,q7⟩:=q7; exact⟨x7,σ7,H7,I7.unpinned,r7,q7⟩
end
theorem Dg {K:zAa} {a:Addr} {xs:List V} {g:TG} {tb:TS} {D:Nj} {σ:St} {H:Hp} (Pv:Nat->St->Hp->Prop) (h0:Pv 0 σ H) (hl:∀ i σ H,i<=xs.length->Pv i σ H->SqL K H a xs)
  (hs:∀ i x σ H,xs[i]?=some x->Pv i σ H->g x σ H fun σ2 H2=>tb { D with nx:=Pv (i+1),ct:=Pv (i+1),bk:=D.nx } σ2 H2) (hd:∀ σ H,Pv xs.length σ H->D.nx σ H) :
  ∃ W:Nat->Nat->St->Hp->Prop,(∃ m,W 0 m σ H)/\∀ i m σ H,W i m σ H ->
   ((LQ K a).stop i H/\D.nx σ H)\/((LQ K a).go i H/\∃ N:St->Hp->Prop,(∀ σ' H',N σ' H'->∃ m',m'<m/\W (i+1) m' σ' H')/\∀ x H',(LQ K a).yld i H x H'->g x σ H' fun σ2 H2=>tb { D with nx:=N,ct:=N,bk:=D.nx } σ2 H2):=by
 refine⟨fun i m σ H=>m=xs.length-i/\i<=xs.length/\Pv i σ H,⟨xs.length,by simp,zAB _,h0⟩,?_⟩;rintro i m σ H ⟨rfl,hi,p⟩;have q:=hl i σ H hi p;by_cases hlt:i<xs.length
 ·refine .inr ⟨⟨xs,xs[i],q,by simp [hlt]⟩,Pv (i+1),fun σ' H' p'=>⟨xs.length-(i+1),by lia,rfl,hlt,p'⟩,fun x H' y=>?_⟩
  obtain⟨e,y⟩:=y;subst e;exact hs i x σ _ (y xs q) p
 ·have e:i=xs.length:=by lia
  subst e;exact .inl ⟨⟨xs,q,zAn _⟩,hd σ H p⟩
theorem Dq {lo:Int} {n:Nat} {g:TG} {tb:TS} {D:Nj} {σ:St} {H:Hp} (Pv:Nat->St->Hp->Prop) (h0:Pv 0 σ H)
  (hs:∀ i σ H,i<n->Pv i σ H->g (.int (lo+i)) σ H fun σ2 H2=>tb { D with nx:=Pv (i+1),ct:=Pv (i+1),bk:=D.nx } σ2 H2) (hd:∀ σ H,Pv n σ H->D.nx σ H) :
  ∃ W:Nat->Nat->St->Hp->Prop,(∃ m,W 0 m σ H)/\∀ i m σ H,W i m σ H ->
   ((LD lo n).stop i H/\D.nx σ H)\/((LD lo n).go i H/\∃ N:St->Hp->Prop,(∀ σ' H',N σ' H'->∃ m',m'<m/\W (i+1) m' σ' H')/\∀ x H',(LD lo n).yld i H x H'->g x σ H' fun σ2 H2=>tb { D with nx:=N,ct:=N,bk:=D.nx } σ2 H2):=by
 refine⟨fun i m σ H=>m=n-i/\i<=n/\Pv i σ H,⟨n,by simp,zAB _,h0⟩,?_⟩;rintro i m σ H ⟨rfl,hi,p⟩;by_cases hlt:i<n
 ·refine .inr ⟨hlt,Pv (i+1),fun σ' H' p'=>⟨n-(i+1),by lia,rfl,hlt,p'⟩,fun x H' y=>?_⟩
  obtain⟨e,y⟩:=y;subst e y;exact hs i σ _ hlt p
 ·have e:i=n:=by lia
  subst e;exact .inl ⟨zAn _,hd σ H p⟩
abbrev R2:=V->V->Hp->VK->Prop
def Ko (X:Cx) (f:Value->Value->Sem Value) (r:R2):Prop:=
 ∀ (pins:List (Addr×Obj)) (s:Shared) (σ:St) (H:Hp) (x y:V) (v u:Value) (Q:VK),Inv X pins σ H s->RelV x v->RelV y u->r x y H Q ->
  wpAny (model X.prog X.w) X.A (f v u) (EP X pins σ Q) X.xe s
def OT (X:Cx) (f:Value->Sem Value) (r:V->Hp->VK->Prop):Prop:=
 ∀ (pins:List (Addr×Obj)) (s:Shared) (σ:St) (H:Hp) (x:V) (v:Value) (Q:VK),Inv X pins σ H s->RelV x v->r x H Q ->
  wpAny (model X.prog X.w) X.A (f v) (EP X pins σ Q) X.xe s
def Gf (X:Cx) (f:Value) (r:List V->Hp->VK->Prop):Prop:=
 ∀ (pins:List (Addr×Obj)) (s:Shared) (σ:St) (H:Hp) (xs:List V) (us:List Value) (Q:VK),Inv X pins σ H s->Vals xs us->r xs H Q ->
  wpAny (model X.prog X.w) X.A (call f us) (EP X pins σ Q) X.xe s
def PJ (X:Cx) (r:V->Hp->(Bool->Hp->Prop)->Prop):Prop:=
 ∀ (pins:List (Addr×Obj)) (s:Shared) (σ:St) (H:Hp) (x:V) (v:Value) (Q:Bool->Hp->Prop),Inv X pins σ H s->RelV x v->r x H Q ->
  wpAny (model X.prog X.w) X.A (truthy v) (TP X pins σ Q) X.xe s
def OB (r:R2) (ta tb:TE):TE:=fun σ H Q=>ta σ H fun x H1=>tb σ H1 fun y H2=>r x y H2 Q
def RL (r:V->Hp->VK->Prop) (ta:TE):TE:=fun σ H Q=>ta σ H fun x H1=>r x H1 Q
def rI (C:Int->Int->Prop) (g:Int->Int->V):R2:=fun x y H Q=>∃ i j,x = .int i/\y = .int j/\C i j/\Q (g i j) H
def IK (g:Int->Int->V):R2:=fun x y H Q=>∃ i j,x = .int i/\y = .int j/\Q (g i j) H
def rU (g:Int->V):V->Hp->VK->Prop:=fun x H Q=>∃ i,x = .int i/\Q (g i) H
section
variable {X:Cx} {a b c:Expr} {ta tb tc:TE} {pos:Pos}
theorem JX (ha:PE X a ta) (hb:PE X b tb) {pins:List (Addr×Obj)} {s:Shared} {σ:St} {H:Hp} {R:V->V->Hp->Prop} (I:Inv X pins σ H s)
  (h:ta σ H fun x H1=>tb σ H1 fun y H2=>R x y H2) {Q:Value->Shared->Prop} {f:Value->Value->Sem Value}
  (hf:∀ v u s2 x y H2,Inv X pins σ H2 s2->RelV x v->RelV y u->R x y H2->wpAny (model X.prog X.w) X.A (f v u) Q X.xe s2) :
  wpAny (model X.prog X.w) X.A (eval a X.env) (fun v s₁ => wpAny (model X.prog X.w) X.A (eval b X.env) (fun u s₂ => wpAny (model X.prog X.w) X.A (f v u) Q X.xe s₂) X.xe s₁) X.xe s:=by
 refine Cs (ha pins s σ H _ I h) fun v s1 ⟨x,H1,I1,r1,q1⟩=>?_;refine Cs (hb pins s1 σ H1 _ I1 q1) fun u s2 ⟨y,H2,I2,r2,q2⟩=>?_;exact hf v u s2 x y H2 I2 r1 r2 q2
theorem Ay {op:Operator} {r:R2} (ho:Ko X (binaryOp op) r) (ha:PE X a ta) (hb:PE X b tb):PE X (.BinOp a op b pos) (OB r ta tb):=by
 intro pins s σ H Q I h;exact wpAny_BinOp (JX ha hb I h fun v u s2 x y H2 I2 rx ry q=>ho pins s2 σ H2 x y v u Q I2 rx ry q)
theorem E4 {op:UnaryOp} {r:V->Hp->VK->Prop} (ho:OT X (unaryOp op) r) (ha:PE X a ta):PE X (.UnaryOp op a pos) (RL r ta):=by
 intro pins s σ H Q I h;exact UnaryOp_ (Cs (ha pins s σ H _ I h) fun v s1 ⟨x,H1,I1,r1,q1⟩=>ho pins s1 σ H1 x v Q I1 r1 q1)
theorem NX {f:Value->Value->Sem Value} {C:Int->Int->Prop} {g:Int->Int->Int}
  (rule:∀ (i j:Int) (t u:Tok) (s:Shared) (Q:Value->Shared->Prop) (E:Value->Shared->Prop),C i j->Q (.int (g i j) s.toks) { s with toks:=s.toks+1 }->wpAny (model X.prog X.w) X.A (f (.int i t) (.int j u)) Q E s) :
  Ko X f (rI C fun i j=>.int (g i j)):=by
 intro pins s σ H x y v u Q I rx ry h;obtain⟨i,j,rfl,rfl,hc,q⟩:=h;obtain⟨t,rfl⟩:=rx;obtain⟨t',rfl⟩:=ry;exact rule i j t t' s _ _ hc ⟨.int (g i j),H,I.tok _,⟨_,rfl⟩,q⟩
theorem MM {f:Value->Value->Sem Value} {g:Int->Int->Int}
  (rule:∀ (i j:Int) (t u:Tok) (s:Shared) (Q:Value->Shared->Prop) (E:Value->Shared->Prop),Q (.int (g i j) s.toks) { s with toks:=s.toks+1 }->wpAny (model X.prog X.w) X.A (f (.int i t) (.int j u)) Q E s) :
  Ko X f (IK fun i j=>.int (g i j)):=by
 intro pins s σ H x y v u Q I rx ry h;obtain⟨i,j,rfl,rfl,q⟩:=h;obtain⟨t,rfl⟩:=rx;obtain⟨t',rfl⟩:=ry;exact rule i j t t' s _ _ ⟨.int (g i j),H,I.tok _,⟨_,rfl⟩,q⟩
theorem HG {f:Value->Value->Sem Value} {g:Int->Int->Bool}
  (rule:∀ (i j:Int) (t u:Tok) (s:Shared) (Q:Value->Shared->Prop) (E:Value->Shared->Prop),Q (.bool (g i j)) s->wpAny (model X.prog X.w) X.A (f (.int i t) (.int j u)) Q E s) :
  Ko X f (IK fun i j=>.bl (g i j)):=by
 intro pins s σ H x y v u Q I rx ry h;obtain⟨i,j,rfl,rfl,q⟩:=h;obtain⟨t,rfl⟩:=rx;obtain⟨t',rfl⟩:=ry;exact rule i j t t' s _ _ ⟨.bl (g i j),H,I,rfl,q⟩
def OR (i j:Int):Prop:=0<j/\j<1073741824
def OZ (i j:Int):Prop:=0<=j/\j<=1000000/\i.natAbs<2^64
def CMul (i j:Int):Prop:=(-(2^64)<i/\i<2^64)\/(-(2^64)<j/\j<2^64)
theorem CMul.ok {i j:Int} (h:CMul i j):IntMulOk i j:=by
 rcases h with ⟨h1,h2⟩ | ⟨h1,h2⟩
 ·exact .of_left (intBits_le_64 h1 h2)
 ·exact .of_right (intBits_le_64 h1 h2)
theorem Cd:Ko X (binaryOp .Add) (IK fun i j=>.int (i+j)):=MM fun _ _ _ _ _ _ _ q=>add_int q
theorem Ly:Ko X (binaryOp .Sub) (IK fun i j=>.int (i-j)):=MM fun _ _ _ _ _ _ _ q=>sub_int q
theorem Eb:Ko X (binaryOp .Mult) (rI CMul fun i j=>.int (i*j)):=NX fun _ _ _ _ _ _ _ hc q=>mul_int q hc.ok
theorem Bw:Ko X (binaryOp .FloorDiv) (rI OR fun i j=>.int (i/j)):=NX fun i j _ _ _ _ _ hc q=>by
 have h1:(0:Int)<j:=hc.1;have h2:j<1073741824:=hc.2;exact floordiv_int (by lia) (by rw[Int.fdiv_eq_ediv_of_nonneg i (by lia)]; exact q) (.inl (PyProof.noPylong_small (by lia)))
theorem Bu:Ko X (binaryOp .Mod) (rI (fun _ j=>0<j) fun i j=>.int (i%j)):=NX fun i j _ _ _ _ _ hc q=>by
 have h1:(0:Int)<j:=hc;exact mod_int' (by lia) (by rw[Int.fmod_eq_emod_of_nonneg i (by lia)]; exact q)
theorem Rb:Ko X (binaryOp .Pow) (rI OZ fun i j=>.int (i^j.toNat)):=NX fun _ _ _ _ _ _ _ hc q=>pow_int_small hc.1 hc.2.1 hc.2.2 q
theorem QZ {f:Value->Sem Value} {g:Int->Int}
  (rule:∀ (i:Int) (t:Tok) (s:Shared) (Q:Value->Shared->Prop) (E:Value->Shared->Prop),Q (.int (g i) s.toks) { s with toks:=s.toks+1 }->wpAny (model X.prog X.w) X.A (f (.int i t)) Q E s) :
  OT X f (rU fun i=>.int (g i)):=by
 intro pins s σ H x v Q I rx h;obtain⟨i,rfl,q⟩:=h;obtain⟨t,rfl⟩:=rx;exact rule i t s _ _ ⟨.int (g i),H,I.tok _,⟨_,rfl⟩,q⟩
theorem Th:OT X (unaryOp .USub) (rU fun i=>.int (-i)):=QZ fun _ _ _ _ _ q=>neg_int q
def NJ:V->V->Bool
 | .non,.non=>true | .non,.int _=>true | .int _,.non=>true | .non,.bl _=>true | .bl _,.non=>true | .non,.str _=>true | .str _,.non=>true
 | .int _,.int _=>true | .bl _,.bl _=>true | .str _,.str _=>true | .byt _,.byt _=>true
 | .int _,.str _=>true | .str _,.int _=>true | .bl _,.str _=>true | .str _,.bl _=>true
 | _,_=>false
def RG:R2:=fun x y H Q=>NJ x y=true/\Q (.bl (decide (x=y))) H
def RA:R2:=fun x y H Q=>NJ x y=true/\Q (.bl (!decide (x=y))) H
theorem U3 {i j:Int}:decide (V.int i=V.int j)=(i==j):=by
 rw[Bool.eq_iff_iff];simp
theorem BU {i j:Bool}:decide (V.bl i=V.bl j)=(i==j):=by
 rw[Bool.eq_iff_iff];simp
theorem S0 {i j:Str}:decide (V.str i=V.str j)=(i==j):=by
 rw[Bool.eq_iff_iff];simp
theorem Q0 {i j:Array UInt8}:decide (V.byt i=V.byt j)=(i.toList==j.toList):=by
 rw[Bool.eq_iff_iff];cases i;cases j;simp
theorem Cj {pins:List (Addr×Obj)} {σ:St} {H:Hp} {s:Shared} {Q:VK} {k k':Bool} (I:Inv X pins σ H s) (q:Q (.bl k) H) (e:k=k'):EP X pins σ Q (.bool k') s:=by
 subst e;exact⟨.bl k,H,I,rfl,q⟩
theorem Db:Ko X (compareOp .Eq) RG:=by
 intro pins s σ H x y v u Q I rx ry h;obtain⟨hs,q⟩:=h;cases x with
 | non=>
  cases rx
  cases y with
  | non=>cases ry; exact PySem.EqNone.eq_none_none (Cj I q (by simp))
  | bl j=>cases ry; exact PySem.EqNone.eq_none_bool (Cj I q (by simp))
  | int j=>obtain⟨t',rfl⟩:=ry; exact PySem.EqNone.eq_none_int (Cj I q (by simp))
  | str j=>obtain⟨t',rfl⟩:=ry; exact PySem.EqNone.eq_none_str (Cj I q (by simp))
  | _=>exact absurd (show false=true from hs) zAl
 | bl i=>
  cases rx
  cases y with
  | non=>cases ry; exact PySem.EqNone.eq_bool_none (Cj I q (by simp))
  | bl j=>cases ry; exact eq_bool (Cj I q BU)
  | str j=>obtain⟨t',rfl⟩:=ry; exact PySem.EqMixed.eq_bool_str (Cj I q (by simp))
  | _=>exact absurd (show false=true from hs) zAl
 | int i=>
  obtain⟨t,rfl⟩:=rx;cases y with
  | non=>cases ry; exact PySem.EqNone.eq_int_none (Cj I q (by simp))
  | int j=>obtain⟨t',rfl⟩:=ry; exact eq_int (Cj I q U3)
  | str j=>obtain⟨t',rfl⟩:=ry; exact PySem.EqMixed.eq_int_str (Cj I q (by simp))
  | _=>exact absurd (show false=true from hs) zAl
 | str i=>
  obtain⟨t,rfl⟩:=rx;cases y with
  | non=>cases ry; exact PySem.EqNone.eq_str_none (Cj I q (by simp))
  | bl j=>cases ry; exact PySem.EqMixed.eq_str_bool (Cj I q (by simp))
  | int j=>obtain⟨t',rfl⟩:=ry; exact PySem.EqMixed.eq_str_int (Cj I q (by simp))
  | str j=>obtain⟨t',rfl⟩:=ry; exact eq_str (Cj I q S0)
  | _=>exact absurd (show false=true from hs) zAl
 | byt i=>
  obtain⟨t,rfl⟩:=rx;cases y with
  | byt j=>obtain⟨t',rfl⟩:=ry; exact PySem.W.eq_bytes (Cj I q Q0)
  | _=>exact absurd (show false=true from hs) zAl
 | _=>cases y <;> exact absurd (show false=true from hs) zAl
theorem IP:Ko X (compareOp .NotEq) RA:=by
 intro pins s σ H x y v u Q I rx ry h;obtain⟨hs,q⟩:=h;cases x with
 | non=>
  cases rx
  cases y with
  | non=>cases ry; exact PySem.EqNone.ne_none_none (Cj I q (by simp))
  | bl j=>cases ry; exact PySem.EqNone.ne_none_bool (Cj I q (by simp))
  | int j=>obtain⟨t',rfl⟩:=ry; exact PySem.EqNone.ne_none_int (Cj I q (by simp))
  | str j=>obtain⟨t',rfl⟩:=ry; exact PySem.EqNone.ne_none_str (Cj I q (by simp))
  | _=>exact absurd (show false=true from hs) zAl
 | bl i=>
  cases rx
  cases y with
  | non=>cases ry; exact PySem.EqNone.ne_bool_none (Cj I q (by simp))
  | bl j=>cases ry; exact ne_bool (Cj I q (congrArg not BU))
  | str j=>obtain⟨t',rfl⟩:=ry; exact PySem.EqMixed.ne_bool_str (Cj I q (by simp))
  | _=>exact absurd (show false=true from hs) zAl
 | int i=>
  obtain⟨t,rfl⟩:=rx;cases y with
  | non=>cases ry; exact PySem.EqNone.ne_int_none (Cj I q (by simp))
  | int j=>obtain⟨t',rfl⟩:=ry; exact ne_int (Cj I q (congrArg not U3))
  | str j=>obtain⟨t',rfl⟩:=ry; exact PySem.EqMixed.ne_int_str (Cj I q (by simp))
  | _=>exact absurd (show false=true from hs) zAl
 | str i=>
  obtain⟨t,rfl⟩:=rx;cases y with
  | non=>cases ry; exact PySem.EqNone.ne_str_none (Cj I q (by simp))
  | bl j=>cases ry; exact PySem.EqMixed.ne_str_bool (Cj I q (by simp))
  | int j=>obtain⟨t',rfl⟩:=ry; exact PySem.EqMixed.ne_str_int (Cj I q (by simp))
  | str j=>obtain⟨t',rfl⟩:=ry; exact ne_str (Cj I q (congrArg not S0))
  | _=>exact absurd (show false=true from hs) zAl
 | byt i=>
  obtain⟨t,rfl⟩:=rx;cases y with
  | byt j=>obtain⟨t',rfl⟩:=ry; exact PySem.W.ne_bytes (Cj I q (congrArg not Q0))
  | _=>exact absurd (show false=true from hs) zAl
 | _=>cases y <;> exact absurd (show false=true from hs) zAl
theorem Fw:Ko X (compareOp .Lt) (IK fun i j=>.bl (decide (i<j))):=HG fun _ _ _ _ _ _ _ q=>lt_int q
theorem Pa:Ko X (compareOp .LtE) (IK fun i j=>.bl (decide (i<=j))):=HG fun _ _ _ _ _ _ _ q=>le_int q
theorem Vq:Ko X (compareOp .Gt) (IK fun i j=>.bl (decide (j<i))):=HG fun _ _ _ _ _ _ _ q=>gt_int q
theorem IG:Ko X (compareOp .GtE) (IK fun i j=>.bl (decide (j<=i))):=HG fun _ _ _ _ _ _ _ q=>ge_int q
theorem Ti:Ko X (compareOp .Is) (fun x y H Q=>y = .non/\Q (.bl (decide (x = .non))) H):=by
 intro pins s σ H x y v u Q I rx ry h;obtain⟨rfl,q⟩:=h;cases ry;refine is_none_gen (Cj I q ?_);cases x <;> first
  | (cases rx; rfl)
  | (obtain⟨t,rfl⟩:=rx; rfl)
theorem W7:Ko X (compareOp .IsNot) (fun x y H Q=>y = .non/\Q (.bl (!decide (x = .non))) H):=by
 intro pins s σ H x y v u Q I rx ry h;obtain⟨rfl,q⟩:=h;cases ry;refine isnot_none_gen (Cj I q ?_);cases x <;> first
  | (cases rx; rfl)
  | (obtain⟨t,rfl⟩:=rx; rfl)
theorem Bm (b:Expr) {op:CmpOp} (h:op ≠ .In:=by decide) (h2:op ≠ .NotIn:=by decide):behindInMarks op b=false:=by
 have e1:(op==CmpOp.In)=false:=by cases op <;> first | rfl | exact absurd rfl h
 have e2:(op==CmpOp.NotIn)=false:=by cases op <;> first | rfl | exact absurd rfl h2
 cases b <;> simp [behindInMarks,e1,e2]
theorem Hf {op:CmpOp} {r:R2} (ho:Ko X (compareOp op) r) (ha:PE X a ta) (hb:PE X b tb) (hm:behindInMarks op b=false):PE X (.Compare a [op] [b] pos) (OB r ta tb):=by
 intro pins s σ H Q I h;exact wpAny_Compare1 (JX ha hb I h fun v u s2 x y H2 I2 rx ry q=>ho pins s2 σ H2 x y v u Q I2 rx ry q) hm
def MD (t:TE):TT:=fun σ H Q=>t σ H fun x H'=>∃ k,x = .bl k/\Q k H'
theorem Bk {op:CmpOp} {r:R2} (ho:Ko X (compareOp op) r) (ha:PE X a ta) (hb:PE X b tb) (hm:behindInMarks op b=false):PT X (.Compare a [op] [b] pos) (MD (OB r ta tb)):=by
 intro pins s σ H Q I h;refine wpAny_isTrue_Compare1 (Cs (ha pins s σ H _ I h) fun v s1 ⟨x,H1,I1,r1,q1⟩=>Cs (hb pins s1 σ H1 _ I1 q1) fun u s2 ⟨y,H2,I2,r2,q2⟩=>
  Cs (ho pins s2 σ H2 x y v u _ I2 r1 r2 q2) fun c s3 ⟨z,H3,I3,r3,k,e,q3⟩=>?_) hm
 subst e;cases r3;exact wpAny_truthy_bool ⟨H3,I3,q3⟩
def JQ (r r':R2) (ta tb tc:TE):TE:=fun σ H Q=>ta σ H fun x H1=>tb σ H1 fun y H2=>r x y H2 fun z H3=>∃ k,z = .bl k /\
 (if k=true then tc σ H3 fun w' H4=>r' y w' H4 Q else Q (.bl false) H3)
theorem Rv {op op':CmpOp} {r r':R2} (ho:Ko X (compareOp op) r) (ho':Ko X (compareOp op') r') (ha:PE X a ta) (hb:PE X b tb) (hc:PE X c tc)
  (hm:lastMarks [op,op'] [b,c]=false:=by with_unfolding_all rfl):PE X (.Compare a [op,op'] [b,c] pos) (JQ r r' ta tb tc):=by
 intro pins s σ H Q I h;refine Compare_chain (Cs (ha pins s σ H _ I h) fun v s1 ⟨x,H1,I1,r1,q1⟩=>chain_link (Cs (hb pins s1 σ H1 _ I1 q1) fun u s2 ⟨y,H2,I2,r2,q2⟩=>
  Cs (ho pins s2 σ H2 x y v u _ I2 r1 r2 q2) fun d s3 ⟨z,H3,I3,r3,k,e,q3⟩=>?_)) hm
 subst e;cases r3;refine wpAny_truthy_bool ?_;cases k with
 | false=>exact ite_ff ⟨.bl false,H3,I3,rfl,q3⟩
 | true=>exact ite_tt (chain_last (Cs (hc pins s3 σ H3 _ I3 q3) fun w' s4 ⟨z',H4,I4,r4,q4⟩=>ho' pins s4 σ H4 y z' u w' Q I4 r2 r4 q4))
def KS (K:zAa) (x:V) (H:Hp) (k:Bool):Prop:=
 match x with
 | .non=>k=false
 | .bl b=>k=b
 | .int i=>k=(i != 0)
 | .str y=>y.length<=sizeLine/\k=((y.length:Int) != 0)
 | .byt y=>y.size<=sizeLine/\k=((y.size:Int) != 0)
 | .ref p=>(∃ xs,SqL K H p xs/\k = !xs.isEmpty)\/(∃ xs,SqT K H p xs/\k = !xs.isEmpty)\/∃ kvs,H p=some (.dK kvs)/\k = !kvs.isEmpty
 | _=>False
theorem M9 {κ:Type} {kvs:List (κ×V)} {vs:List (κ×Value)} (r:KV kvs vs):(!vs.isEmpty) = !kvs.isEmpty:=by
 cases r <;> rfl
theorem Rt {xs:List V} {its:List Value} (r:Vals xs its):(!its.toArray.isEmpty) = !xs.isEmpty:=by
 cases r <;> simp
theorem Lh:(sizeLine:Nat)<2^63:=by rw[zCA]; decide
theorem BQ:PJ X (fun x H Q=>∃ k,KS X.K x H k/\Q k H):=by
 intro pins s σ H x v Q I rx h;obtain⟨k,e,q⟩:=h;have hl:=Lh;have hs:sizeLine=16777216:=zCA;cases x with
 | non=>
  cases rx
  have e':k=false:=e;subst e';exact truthy_none ⟨H,I,q⟩
 | bl b=>
  cases rx
  have e':k=b:=e;subst e';exact wpAny_truthy_bool ⟨H,I,q⟩
 | int i=>
  obtain⟨t,rfl⟩:=rx;have e':k=(i != 0):=e;subst e';exact PySem.P.truthy_int ⟨H,I,q⟩
 | str y=>
  obtain⟨t,rfl⟩:=rx;obtain⟨hy,e'⟩:y.length<=sizeLine/\k=((y.length:Int) != 0):=e;subst e';exact PySem.P.truthy_str (by lia) ⟨H,I.tok _,q⟩
 | byt y=>
  obtain⟨t,rfl⟩:=rx;obtain⟨hy,e'⟩:y.size<=sizeLine/\k=((y.size:Int) != 0):=e;subst e';exact PySem.W.truthy_bytes (by lia) ⟨H,I.tok _,q⟩
 | ref p=>
  cases rx
  have e':(∃ xs,SqL X.K H p xs/\k = !xs.isEmpty)\/(∃ xs,SqT X.K H p xs/\k = !xs.isEmpty)\/∃ kvs,H p=some (.dK kvs)/\k = !kvs.isEmpty:=e;rcases e' with ⟨xs,hx,e'⟩ | ⟨xs,hx,e'⟩ | ⟨kvs,hx,e'⟩
  ·subst e'
   obtain⟨its,r,pl,hz⟩:=I.list hx;have hlen:=r.length;exact wpAny_truthy_list pl.isList (by simp only [zAh]; lia) ⟨H,I.tok _,by rw[Rt r]; exact q⟩
  ·subst e'
   obtain⟨its,r,pl,hz⟩:=I.tuple hx;have hlen:=r.length;exact truthy_tuple pl (by simp only [zAh]; lia) ⟨H,I.tok _,by rw[Rt r]; exact q⟩
  ·subst e'
   obtain⟨hz,hS,vs,r,m⟩:kvs.length<=sizeLine/\(p==sysModules)=false/\∃ vs,KV kvs vs/\s.heap.DictOf (Dl X.prog X.w) p vs:=I.hok p _ hx;have hlen:kvs.length=vs.length:=Paired.length r;exact wpAny_truthy_dict hS m (by lia) ⟨H,I.tok _,by rw[M9 r]; exact q⟩
 | _=>exact (show False from e).elim
theorem NP (ha:PE X a ta) (he:∀ whole,isTrue a X.env whole=(do let v <- whole; standAt a.pos; holding [v] (truthy v))) :
  PT X a (fun σ H Q=>ta σ H fun x H'=>∃ k,KS X.K x H' k/\Q k H'):=by
 intro pins s σ H Q I h;exact isTrue_plain (Cs (ha pins s σ H _ I h) fun v s1 ⟨x,H1,I1,r1,q1⟩=>BQ pins s1 σ H1 x v Q I1 r1 q1) (he _)
theorem Gm:Ko X (binaryOp .Add) (fun x y H Q=>∃ i j,x = .str i/\y = .str j/\i.length+j.length<=sizeLine/\Q (.str (i++j)) H):=by
 intro pins s σ H x y v u Q I rx ry h;obtain⟨i,j,rfl,rfl,hz,q⟩:=h;obtain⟨t,rfl⟩:=rx;obtain⟨t',rfl⟩:=ry;exact add_str (fun t' tk=>⟨.str (i++j),H,I.tok _,⟨_,rfl⟩,q⟩) hz
theorem Ji {x:V} {us:List Value} (r:Vals [x] us):∃ u,us=[u]/\RelV x u:=by
 cases r with
 | cons r1 r2=>cases r2; exact⟨_,rfl,r1⟩
theorem CQ {x y:V} {us:List Value} (r:Vals [x,y] us):∃ u w',us=[u,w']/\RelV x u/\RelV y w':=by
 cases r with
 | cons r1 r2=>
  cases r2 with
  | cons r3 r4=>cases r4; exact⟨_,_,rfl,r1,r3⟩
theorem Ig (hc:X.calm=true):Gf X (.builtin "max") (fun xs H Q=>∃ i j,xs=[.int i,.int j]/\Q (.int (if j>i then j else i)) H):=by
 intro pins s σ H xs us Q I r h;obtain⟨i,j,rfl,q⟩:=h;obtain⟨u,w',rfl,⟨t,rfl⟩,⟨t',rfl⟩⟩:=CQ r;refine max_two_ints (I.ok.hd hc) fun h' tk k=>⟨_,H,I.kept k,?_,q⟩;by_cases hj:j>i
 ·rw[if_pos hj,if_pos hj]; exact⟨_,rfl⟩
 ·rw[if_neg hj,if_neg hj]; exact⟨_,rfl⟩
theorem Ib (hc:X.calm=true):Gf X (.builtin "min") (fun xs H Q=>∃ i j,xs=[.int i,.int j]/\Q (.int (if j<i then j else i)) H):=by
 intro pins s σ H xs us Q I r h;obtain⟨i,j,rfl,q⟩:=h;obtain⟨u,w',rfl,⟨t,rfl⟩,⟨t',rfl⟩⟩:=CQ r;refine min_two_ints (I.ok.hd hc) fun h' tk k=>⟨_,H,I.kept k,?_,q⟩;by_cases hj:j<i
 ·rw[if_pos hj,if_pos hj]; exact⟨_,rfl⟩
 ·rw[if_neg hj,if_neg hj]; exact⟨_,rfl⟩
theorem AN:Gf X (.type "int") (fun xs H Q=>(∃ i,xs=[.int i]/\Q (.int i) H)\/∃ k,xs=[.bl k]/\Q (.int (if k then 1 else 0)) H):=by
 intro pins s σ H xs us Q I r h;rcases h with ⟨i,rfl,q⟩ | ⟨k,rfl,q⟩
 ·obtain⟨u,rfl,t,rfl⟩:=Ji r
  exact call_int_int ⟨.int i,H,I,⟨_,rfl⟩,q⟩
 ·obtain⟨u,rfl,r1⟩:=Ji r
  cases r1
  exact call_int_bool ⟨.int (if k then 1 else 0),H,I.tok _,⟨_,rfl⟩,q⟩
end
structure ObjM (h:Heap) (x dx C:Addr) (mA:Str->Option Value):Prop where
 obj:h.get? x=some (zAX C dx)
 ns:h.Ns1 dx mA
 ne:dx≠x
set_option tactic.hygienic true in
theorem X7 {h:Heap} {dx:Addr} {mA:Str->Option Value} (n:h.Ns1 dx mA):∃ od,h.get? dx=some od/\∀ name,PySem.W.lookIn name od=some (mA name):=by
 obtain⟨o,es,ep,ho,hd,hk,_,hm⟩:=n;refine⟨o,ho,fun name=>?_⟩;have e:=hm name;unfold nsFind findBy at e;rw[<- Array.find?_toList] at e;unfold PySem.W.lookIn;rw[hd]
 dsimp only
 split
 ·rename_i y q
  rw[q] at e;exact congrArg some e
 ·rename_i q
  rw[q] at e;have a:es.toList.any (·.refKey)=false:=by
   rw[List.any_eq_false];intro y hy;obtain⟨z,t,hkey⟩:=hk y (Array.mem_toList_iff.mp hy);simp [DictEntry.refKey,hkey]
  have a':¬ es.toList.any (·.refKey)=true:=by rw[a]; exact zAl
  rw[if_neg a'];exact congrArg some e
theorem ObjM.look {h:Heap} {x dx C:Addr} {mA:Str->Option Value} (I:ObjM h x dx C mA):∃ od,PySem.W.InstAt h x (zAX C dx) C (some od)/\∀ name,PySem.W.lookIn name od=some (mA name):=
 let ⟨od,ho,hl⟩:=X7 I.ns
 ⟨od,⟨I.obj,rfl,rfl,ho⟩,hl⟩
section
variable {prog:Program} {w:World} {A:Around} {E:Value->Shared->Prop} {s:Shared} {K:zAa} {x dx C f:Addr} {mA:Str->Option Value} {name:Str} {v:Value}
theorem GO {expr:Bool} {Q:Value->Shared->Prop} (X:K.In s.heap) (I:ObjM s.heap x dx C mA) (hg:zBY K C name=true) (hh:zCp K C=true)
  (ha:zAc K (.ref C) name=some none) (hv:mA name=some v) (hv':PySem.W.handedIn v=true) (h:Q v { s with toks:=s.toks+1 }) :
  wpAny (model prog w) A (getAttr (.ref x) name expr) Q E s:=by
 obtain⟨od,J,hl⟩:=I.look;exact PySem.W.get_value X J (PySem.W.plainGet_of hg).1 (PySem.W.findObj_own hh ha rfl (by rw[hl,hv])) hv' h
theorem EX {pl:Sem Bool} {Q:Value×List Value->Shared->Prop} (X:K.In s.heap) (I:ObjM s.heap x dx C mA) (hg:zBY K C name=true)
  (hf:zAc K (.ref C) name=some (some (.ref f))) (ht:zCj K (.ref f)=true) (hv:mA name=none) (h:Q (.ref f,[.ref x]) s) :
  wpAny (model prog w) A (getMethod (.ref x) name pl) Q E s:=by
 obtain⟨od,J,hl⟩:=I.look;exact PySem.W.method_fn X J (PySem.W.plainGet_of hg).1 (PySem.W.plainGet_of hg).2 hf (beq_iff_eq.mp ht) (by show (PySem.W.lookIn name od).map (·.isSome)=some false; rw[hl,hv]; rfl) h
theorem GE {ns:List Str} {Q:Unit->Shared->Prop} (X:K.In s.heap) (I:ObjM s.heap x dx C mA)
  (hs:zAc K (.ref C) "__setattr__" = some (some (.builtin "object.__setattr__"))) (hp:PySem.W.plainOver K C=true) (ht:PySem.W.takerIn K C name=some none) (hh:zCp K C=true)
  (hw:PySem.Within mA ns) (hsz:ns.length<=sizeLine)
  (h:∀ h',ObjM h' x dx C (fun y=>if y=name then some v else mA y)->zAQ dx s.heap h'->Q () { s with heap:=h',toks:=s.toks+2 }) :
  wpAny (model prog w) A (setAttr (.ref x) name v) Q E s:=by
 obtain⟨od,J,hl⟩:=I.look;refine PySem.W.set_plain X J hs (PySem.W.osa_open (s:={ s with toks:=s.toks+1 }) (r:=none) X J hp ht fun b=>?_);obtain⟨cd,hc,hd'⟩:=PySem.W.any_some hh;have hx:s.heap.get? x=some ⟨.ref C,some dx,.plain,#[]⟩:=I.obj;refine zCy (zCz (zCy (zCy (wpAny_loadPart hx (zCy (PySem.W.Looks.here (s:={ s with toks:=s.toks+1 }) (PySem.W.looks_clsIn X hc) ?_))))));rw[hd'];refine zCz (a:=some dx) (zCy (zCz (zCy ?_)));refine wpAny_nsSet1 (s:={ s with toks:=s.toks+1 }) I.ns fun h' hn2 hs2=>?_;obtain⟨oD,esD,epD,hoD,hdD,hcD⟩:=hn2.count (PySem.Within.cons name v hw);refine zCy (wpAny_lookBehind hoD (by rw[hdD]; exact pastItsLine_dict (zAG hcD (by rw[zAf]; lia))) ?_);exact zCz (h _ ⟨(hs2.2 _ (Ne.symm I.ne)).trans I.obj,hn2,I.ne⟩ hs2)
theorem CZ {R:Result->Shared->Prop} {vs:List Value} {kw:List (Str×Value)} (X:K.In s.heap) (hm:zCh K C=true)
  (hi:zAc K (.ref C) "__init__" = some (some (.ref f))) (hf:PySem.W.typeIn K (.ref f)=some (.type "function"))
  (h:codeAny (model prog w) (A.under (.builtin "type.__call__" ⟨.ref C::vs,kw⟩)) (.call (.ref f) ⟨.ref (s.heap.objs.size+1)::vs,kw⟩) (PySem.W.InitBack (s.heap.objs.size+1) R)
   { s with heap:=(s.heap.push zAO).push (zAX C s.heap.objs.size) }) :
  codeAny (model prog w) A (.call (.ref C) ⟨vs,kw⟩) R s:=by
 obtain⟨hh,g,d,t,os⟩:=s;exact PySem.W.make_core (PySem.W.makes_of X hm) (PySem.W.looks_findIn X hi) (fun self=>PySem.W.bind_fn X self hf) (.inl rfl) h
theorem X4 {R:Result->Shared->Prop} (X:K.In s.heap) (hm:zCh K C=true)
  (hi:zAc K (.ref C) "__init__" = some (some (.builtin "object.__init__")))
  (hb:∀ self,PySem.W.Looks (model prog w) s.heap (bindSpecial (.builtin "object.__init__") self) (.builtin "object.__init__",[self]))
  (h:codeAny (model prog w) (A.under (.builtin "type.__call__" ⟨[.ref C],[]⟩)) (.call (.builtin "object.__init__") ⟨[.ref (s.heap.objs.size+1)],[]⟩) (PySem.W.InitBack (s.heap.objs.size+1) R)
   { s with heap:=(s.heap.push zAO).push (zAX C s.heap.objs.size) }) :
  codeAny (model prog w) A (.call (.ref C) ⟨[],[]⟩) R s:=by
 obtain⟨hh,g,d,t,os⟩:=s;exact PySem.W.make_core (PySem.W.makes_of X hm) (PySem.W.looks_findIn X hi) hb (.inr ⟨rfl,rfl⟩) h
end
def Bs (f:Str) (v:V):List (Str×V)->List (Str×V)
 | []=>[(f,v)]
 | (g,x)::r=>if g=f then (g,v)::r else (g,x)::Bs f v r
theorem Bi (f g:Str) (v:V):∀ fs:List (Str×V),(Bs f v fs).lookup g=if g=f then some v else fs.lookup g
 | []=>by
  show zCf g [(f,v)]=_;by_cases h:g=f
  ·have hb:(g==f)=true:=beq_iff_eq.mpr h
   simp only [zCf,hb,if_pos h]
  ·have hb:(g==f)=false:=beq_eq_false_iff_ne.mpr h
   simp only [zCf,hb,if_neg h]
 | (k,x)::r=>by
  have ih:=Bi f g v r;rw[show Bs f v ((k,x)::r)=(if k=f then (k,v)::r else (k,x)::Bs f v r) from rfl];by_cases hk:k=f
  ·rw[if_pos hk]
   by_cases h:g=k
   ·have hb:(g==k)=true:=beq_iff_eq.mpr h
    simp only [zCf,hb,if_pos (h.trans hk)]
   ·have hb:(g==k)=false:=beq_eq_false_iff_ne.mpr h
    simp only [zCf,hb,if_neg (fun e:g=f=>h (e.trans hk.symm))]
  ·rw[if_neg hk]
   by_cases h:g=k
   ·have hb:(g==k)=true:=beq_iff_eq.mpr h
    simp only [zCf,hb,if_neg (fun e:g=f=>hk (h.symm.trans e))]
   ·have hb:(g==k)=false:=beq_eq_false_iff_ne.mpr h
    simp only [zCf,hb];exact ih
theorem No (f:Str) (v:V):∀ fs:List (Str×V),f∈(Bs f v fs).map (·.1)/\∀ g,g∈fs.map (·.1)->g∈(Bs f v fs).map (·.1)
 | []=>⟨by simp [Bs],fun g h=>by simp at h⟩
 | (k,x)::r=>by
  obtain⟨i1,i2⟩:=No f v r;rw[show Bs f v ((k,x)::r)=(if k=f then (k,v)::r else (k,x)::Bs f v r) from rfl];by_cases hk:k=f
  ·rw[if_pos hk]
   subst hk;exact⟨by simp,fun g h=>by simpa using h⟩
  ·rw[if_neg hk]
   refine⟨?_,fun g h=>?_⟩
   ·rw[zAN]
    exact zAg _ i1
   ·rw[zAN] at h ⊢
    rcases zAo.mp h with e | e
    ·exact zAo.mpr (.inl e)
    ·exact zAg _ (i2 g e)
theorem Oy (f:Str) (v:V):∀ fs:List (Str×V),(Bs f v fs).length<=fs.length+1
 | []=>by simp [Bs]
 | (k,x)::r=>by
  have ih:=Oy f v r;rw[show Bs f v ((k,x)::r)=(if k=f then (k,v)::r else (k,x)::Bs f v r) from rfl];by_cases hk:k=f
  ·rw[if_pos hk,zAf,zAf]; lia
  ·rw[if_neg hk,zAf,zAf]; lia
theorem RelO.some_of {v:V} {o:Option Value} (r:RelO (some v) o):∃ u,o=some u/\RelV v u:=by
 cases o with
 | none=>exact (show False from r).elim
 | some u=>exact⟨u,rfl,r⟩
theorem RelO.none_of {o:Option Value} (r:RelO none o):o=none:=by
 cases o with
 | none=>rfl
 | some u=>exact (show False from r).elim
theorem Y9 {v:V} {u:Value} (r:RelV v u):PySem.W.handedIn u=true:=by
 cases v with
 | non=>cases (show u=Value.none from r); rfl
 | bl b=>cases (show u=Value.bool b from r); rfl
 | int i=>obtain⟨t,e⟩:=(show ∃ t,u=Value.int i t from r); cases e; rfl
 | str x=>obtain⟨t,e⟩:=(show ∃ t,u=Value.str x t from r); cases e; rfl
 | byt b=>obtain⟨t,e⟩:=(show ∃ t,u=Value.bytes b t from r); cases e; rfl
 | flt b=>obtain⟨t,e⟩:=(show ∃ t,u=Value.float b t from r); cases e; rfl
 | ref a=>cases (show u=Value.ref a from r); rfl
 | ty n=>cases (show u=Value.type n from r); rfl
section
variable {P:Program} {w:World} {H H':Hp} {h h':Heap} {a C dx:Addr} {fs fs':List (Str×V)}
theorem Qe (hok:HOk P w H h) (e:H a=some (.ins C dx fs)):∃ mA,ObjM h a dx C mA/\(∀ f,RelO (fs.lookup f) (mA f))/\PySem.Within mA (fs.map (·.1))/\fs.length<=1000/\H dx=some (.own a):=by
 obtain⟨d,z,ne,ob,mA,n,r,q⟩:=(show ObjOk P w H h a (.ins C dx fs) from hok a _ e);exact⟨mA,⟨ob,n,ne⟩,r,q,z,d⟩
end
structure Cls (K:zAa) (C:Addr):Prop where
 pg:zBY K C Str.empty=true
 hd:zCp K C=true
 po:PySem.W.plainOver K C=true
 sa:zAc K (.ref C) "__setattr__" = some (some (.builtin "object.__setattr__"))
theorem Cls.get {K:zAa} {C:Addr} (c:Cls K C) (f:Str):zBY K C f=true:=c.pg
def NoAttr (K:zAa) (C:Addr) (f:Str):Prop:=zAc K (.ref C) f=some none
theorem NoAttr.taker {K:zAa} {C:Addr} {f:Str} (n:NoAttr K C f):PySem.W.takerIn K C f=some none:=by
 unfold PySem.W.takerIn;rw[show zAc K (.ref C) f=some none from n];rfl
structure Ef (K:zAa) (C:Addr) (m:Str) (f:Addr):Prop where
 at_:zAc K (.ref C) m=some (some (.ref f))
 fn:zCj K (.ref f)=true
 kp:zAP K (.ref f)=true
section
variable {X:Cx} {pins:List (Addr×Obj)} {σ:St} {H:Hp} {s:Shared} {a C dx:Addr} {fs:List (Str×V)} {f:Str} {v:V} {A:Around} {E:Value->Shared->Prop}
theorem G7 {b:Bool} {Q:Value->Shared->Prop} (I:Inv X pins σ H s) (e:H a=some (.ins C dx fs)) (c:Cls X.K C) (n:NoAttr X.K C f) (l:fs.lookup f=some v)
  (h:∀ u s',Inv X pins σ H s'->RelV v u->Q u s'):wpAny (model X.prog X.w) A (getAttr (.ref a) f b) Q E s:=by
 obtain⟨mA,O,r,_,_,_⟩:=Qe I.hok e;obtain⟨u,hu,ru⟩:=RelO.some_of (v:=v) (o:=mA f) (by rw[<- l]; exact r f);exact GO I.kIn O (c.get f) c.hd n hu (Y9 ru) (h u _ (I.tok _) ru)
theorem Lp {m:Str} {g:Addr} {pl:Sem Bool} {Q:Value×List Value->Shared->Prop} (I:Inv X pins σ H s) (e:H a=some (.ins C dx fs)) (c:Cls X.K C) (k:Ef X.K C m g) (l:fs.lookup m=none)
  (h:Q (.ref g,[.ref a]) s):wpAny (model X.prog X.w) A (getMethod (.ref a) m pl) Q E s:=by
 obtain⟨mA,O,r,_,_,_⟩:=Qe I.hok e;have hn:mA m=none:=RelO.none_of (by rw[<- l]; exact r m);exact EX I.kIn O (c.get m) k.at_ k.fn hn h
theorem O8 {y:V} {u:Value} {Q:Unit->Shared->Prop} (I:Inv X pins σ H s) (e:H a=some (.ins C dx fs)) (c:Cls X.K C) (n:NoAttr X.K C f) (hl:fs.length<1000) (ry:RelV y u)
  (h:∀ s',Inv X pins σ (upd H a (.ins C dx (Bs f y fs))) s'->Q () s'):wpAny (model X.prog X.w) A (setAttr (.ref a) f u) Q E s:=by
 obtain⟨mA,O,r,wi,_,ho⟩:=Qe I.hok e;have hz:(fs.map (·.1)).length<=sizeLine:=by rw[zAb,zCA]; lia
 refine GE I.kIn O c.sa c.po n.taker c.hd wi hz fun h' O' sb=>h _ ?_;have hd:∃ o,h'.get? dx=some o:=let ⟨o,_,_,e',_⟩:=O'.ns; ⟨o,e'⟩
 refine I.write (x:=a) (e:=dx) (by rw[e]; exact True.intro) (.inr ho) (fun b q hb z=>(sb.2 b hb).trans z) hd ?_;refine⟨by rw[Ar O.ne]; exact ho,?_,O.ne,O'.obj,_,O'.ns,fun g=>?_,fun g hg=>?_⟩
 ·have:=Oy f y fs; lia
 ·show RelO ((Bs f y fs).lookup g) (if g=f then some u else mA g)
  rw[Bi];by_cases q:g=f
  ·rw[if_pos q,if_pos q]; exact ry
  ·rw[if_neg q,if_neg q]; exact r g
 ·by_cases q:g=f
  ·rw[q]; exact (No f y fs).1
  ·refine (No f y fs).2 g (wi g fun z=>hg ?_)
   show (if g=f then some u else mA g)=none;rw[if_neg q]; exact z
theorem Inv.made (I:Inv X pins σ H s):Inv X pins σ (upd (upd H s.heap.objs.size (.own (s.heap.objs.size+1))) (s.heap.objs.size+1) (.ins C s.heap.objs.size []))
  { s with heap:=(s.heap.push zAO).push (zAX C s.heap.objs.size) }:=by
 have e1:(s.heap.push zAO).get? s.heap.objs.size=some zAO:=zAt s.heap rfl;have e2:((s.heap.push zAO).push (zAX C s.heap.objs.size)).get? (s.heap.objs.size+1)=some (zAX C s.heap.objs.size):=by
  have:=zAt (s.heap.push zAO) (o:=zAX C s.heap.objs.size) rfl
  rwa [zBp] at this
 have e3:(s.heap.push zAO).Ns s.heap.objs.size (fun _=>none):=⟨zAO,#[],_,e1,rfl,(fun e he=>absurd he (by simp)),fun _=>rfl⟩;have I1:=I.laid (a:=s.heap.objs.size) (o:=.own (s.heap.objs.size+1)) (h':=s.heap.push zAO) (t':=s.toks) (fun b u q=>zAe _ q) (zAn _) ⟨_,e1⟩;refine I1.laid (a:=s.heap.objs.size+1) (o:=.ins C s.heap.objs.size []) (t':=s.toks) (fun b u q=>zAe _ q) (Nat.le_of_eq (zBp _ _)) ?_;have ne:s.heap.objs.size≠s.heap.objs.size+1:=zAu (zBB _);refine⟨by rw[Ar ne,Ab],zAB _,ne,e2,fun _=>none,(Heap.Ns1.of_empty e3).at fun o q=>zAe _ q,fun _=>True.intro,fun y hy=>absurd rfl hy⟩
theorem HD {prog:Program} {w:World} {env:Env} {e:Expr} {f:Str} {pos:Pos} {s:Shared} {Q:Value->Shared->Prop} (hb:attributeBase e f env (eval e env)=eval e env)
  (h:wpAny (model prog w) A (eval e env) (fun o s₁ => wpAny (model prog w) A (getAttr o f true) Q E s₁) E s):wpAny (model prog w) A (eval (.Attribute e f pos) env) Q E s:=
 Attribute_any_ h (by rw[arm_eval_Attribute,hb])
end
def LZ (K:zAa) (ta:TE) (f:Str):TE:=fun σ H Q=>ta σ H fun x H1=>∃ a C dx fs v,x = .ref a/\H1 a=some (.ins C dx fs)/\Cls K C/\NoAttr K C f/\fs.lookup f=some v/\Q v H1
def QF (K:zAa) (ta tv:TE) (f:Str):TS:=fun D σ H=>tv σ H fun y H1=>ta σ H1 fun x H2=>∃ a C dx fs,x = .ref a/\H2 a=some (.ins C dx fs)/\Cls K C/\NoAttr K C f/\fs.length<1000 /\
 D.nx σ (upd H2 a (.ins C dx (Bs f y fs)))
section
variable {X:Cx} {o e value:Expr} {f:Str} {pos pos' tpos:Pos} {ta tv:TE}
theorem Cq (he:PE X e ta) (hb:attributeBase e f X.env (eval e X.env)=eval e X.env):PE X (.Attribute e f pos) (LZ X.K ta f):=by
 intro pins s σ H Q I h;refine HD hb (Cs (he pins s σ H _ I h) fun u s1 ⟨x,H1,I1,rx,a,C,dx,fs,v,ex,ea,c,n,l,q⟩=>?_);subst ex;obtain rfl:u=Value.ref a:=rx;exact G7 I1 ea c n l fun u' s2 I2 ru=>⟨v,H1,I2,ru,q⟩
theorem Cr (ha:PE X o ta) (hv:PE X value tv) (hs:swapsWith value (some (.Attribute o f pos')) pos.line X.env=pure false):PS X (.Assign [.Attribute o f pos'] value pos) (QF X.K ta tv f):=by
 intro pins s σ H D I h;refine plainObj_wpAny_Assign_Attribute (Cs (hv pins s σ H _ I h) fun u s1 ⟨y,H1,I1,ry,q⟩=>Cs (ha pins s1 σ H1 _ I1 q) fun ov s2 ⟨x,H2,I2,rx,a,C,dx,fs,ex,ea,c,n,l,q2⟩=>?_) hs;subst ex;obtain rfl:ov=Value.ref a:=rx;exact O8 I2 ea c n l ry fun s3 I3=>⟨σ,_,I3,q2⟩
theorem IL {pl:Sem Bool} {m:Str} {apos:Pos} {args:List Expr} {pins:List (Addr×Obj)} {s:Shared} {σ:St} {H:Hp} {Q:Value->Shared->Prop} {te:TE} (he:PE X e te) (I:Inv X pins σ H s)
  (h:te σ H fun x H1=>∃ a C dx fs g,x = .ref a/\H1 a=some (.ins C dx fs)/\Cls X.K C/\Ef X.K C m g/\fs.lookup m=none /\
   ∀ s1,Inv X pins σ H1 s1->wpAny (model X.prog X.w) X.A (callWith pos (.ref g) [.ref a] (backTo pos (starEach args X.env)) (backToKw pos (keywordEach [] X.env))) Q X.xe s1)
  (ht:eval (.Call (.Attribute e m apos) args [] pos) X.env=(do
   let ov <- eval e X.env
   standAt apos.atName
   let (f,first) <- holding [ov] (getMethod ov m pl)
   callWith pos f first (backTo pos (starEach args X.env)) (backToKw pos (keywordEach [] X.env)))) :
  wpAny (model X.prog X.w) X.A (eval (.Call (.Attribute e m apos) args [] pos) X.env) Q X.xe s:=by
 refine zBS (pl:=pl) (Cs (he pins s σ H _ I h) fun u s1 ⟨x,H1,I1,rx,a,C,dx,fs,g,ex,ea,c,k,l,q⟩=>?_) ht;subst ex;obtain rfl:u=Value.ref a:=rx;exact Lp I1 ea c k l (q s1 I1)
end
section
variable {X:Cx} {pins:List (Addr×Obj)} {σ:St} {H:Hp} {s:Shared} {A:Around} {E:Value->Shared->Prop} {Q:Value->Shared->Prop} {c:Value} {b:Bool}
inductive Gz (K:zAa) (H:Hp):V->Value->Prop where
 | non:Gz K H .non (.type "NoneType")
 | bl (x:Bool):Gz K H (.bl x) (.type "bool")
 | int (i:Int):Gz K H (.int i) (.type "int")
 | str (x:Str):Gz K H (.str x) (.type "str")
 | flt (x:UInt64):Gz K H (.flt x) (.type "float")
 | lst {a:Addr} {xs:List V} (e:H a=some (.lst xs)):Gz K H (.ref a) (.type "list")
 | frz {a:Addr} {o:Obj} {xs:List V} (e:H a=some (.frz o (.lst xs))):Gz K H (.ref a) (.type "list")
 | tup {a:Addr} {xs:List V} (e:H a=some (.tup xs)):Gz K H (.ref a) (.type "tuple")
 | dK {a:Addr} {kvs:List (Dt×V)} (e:H a=some (.dK kvs)):Gz K H (.ref a) (.type "dict")
 | dT {a:Addr} {kvs:List (List Dt×V)} (e:H a=some (.dT kvs)):Gz K H (.ref a) (.type "dict")
 | ins {a C dx:Addr} {fs:List (Str×V)} (e:H a=some (.ins C dx fs)) (cl:Cls K C) (ha:zAc K (.ref C) "__class__" = some (some (.builtin "object.__class__")))
   (hn:zCq K (.builtin "object.__class__") "__get__" = some (some (.builtin "getset_descriptor.__get__"))) (htk:PySem.W.takesIn K (.builtin "object.__class__")=some true)
   (hm:zCt K C (.type "object")=some true):Gz K H (.ref a) (.ref C)
theorem AT {x:V} {u t:Value} (I:Inv X pins σ H s) (rx:RelV x u) (ty:Gz X.K H x t) (e:zAR X.K t c=some b) (h:∀ tk,Q (.bool b) { s with toks:=tk }) :
  wpAny (model X.prog X.w) A (call (.builtin "isinstance") [u,c]) Q E s:=by
 cases ty with
 | non=>cases (show u=Value.none from rx); exact zBh PySem.W.kitx_none I.kIn True.intro e (fun z=>nomatch z) h
 | bl y=>cases (show u=Value.bool y from rx); exact zBh PySem.W.kitx_bool I.kIn True.intro e (fun z=>nomatch z) h
 | int i=>obtain⟨t,q⟩:=(show ∃ t,u=Value.int i t from rx); cases q; exact zBh PySem.W.kitx_int I.kIn True.intro e (fun z=>nomatch z) h
 | str y=>obtain⟨t,q⟩:=(show ∃ t,u=Value.str y t from rx); cases q; exact zBh PySem.W.kitx_str I.kIn True.intro e (fun z=>nomatch z) h
 | flt y=>obtain⟨t,q⟩:=(show ∃ t,u=Value.float y t from rx); cases q; exact zBh PySem.W.kitx_float I.kIn True.intro e (fun z=>nomatch z) h
 | @lst a xs ea=>
  cases (show u=Value.ref a from rx)
  obtain⟨_,_,n,_,h1⟩:=(show ObjOk X.prog X.w H s.heap a (.lst xs) from I.hok a _ ea);exact zBh PySem.W.kitx_list I.kIn ⟨_,h1,rfl⟩ e (fun z=>nomatch z) h
 | @frz a ob xs ea=>
  cases (show u=Value.ref a from rx)
  obtain⟨_,_,_,n,_,h1⟩:=(show ObjOk X.prog X.w H s.heap a (.frz ob (.lst xs)) from I.hok a _ ea);exact zBh PySem.W.kitx_list I.kIn ⟨_,h1,rfl⟩ e (fun z=>nomatch z) h
 | @tup a xs ea=>
  cases (show u=Value.ref a from rx)
  obtain⟨_,_,_,p⟩:=(show ObjOk X.prog X.w H s.heap a (.tup xs) from I.hok a _ ea);obtain⟨o,h1,h2,_⟩:=p;exact zBh PySem.W.kitx_tuple I.kIn ⟨o,h1,h2⟩ e (fun z=>nomatch z) h
 | @dK a kvs ea=>
  cases (show u=Value.ref a from rx)
  obtain⟨_,_,vs,_,p⟩:=(show ObjOk X.prog X.w H s.heap a (.dK kvs) from I.hok a _ ea);obtain⟨o,es,ep,h1,h2,_⟩:=p;exact zBh PySem.W.kitx_dict I.kIn ⟨o,h1,h2.1⟩ e (fun z=>nomatch z) h
 | @dT a kvs ea=>
  cases (show u=Value.ref a from rx)
  obtain⟨_,_,xs,_,o,es,ep,h1,h2,_⟩:=(show ObjOk X.prog X.w H s.heap a (.dT kvs) from I.hok a _ ea);exact zBh PySem.W.kitx_dict I.kIn ⟨o,h1,h2.1⟩ e (fun z=>nomatch z) h
 | @ins a C dx fs ea cl ha hn htk hm=>
  cases (show u=Value.ref a from rx)
  obtain⟨mA,O,_⟩:=Qe I.hok ea;obtain⟨od,J,_⟩:=O.look;exact zBh (PySem.W.kitx_own (cl.get _) cl.hd ha hn htk hm) I.kIn J e (fun z=>nomatch z) h
end
structure Room (k:Nat) (A:Around):Prop where
 hd:A.handled=none
 dp:A.depth+3*k+5<recursionLimit
 un:A.units+16*k+200<cLine
theorem Room.mono {j k:Nat} {A:Around} (r:Room k A) (h:j<=k):Room j A:=⟨r.hd,by have:=r.dp; lia,by have:=r.un; lia⟩
theorem Room.deeper {k:Nat} {A:Around} (r:Room (k+1) A) (env:Env):Room k (A.deeper env):=
 ⟨r.hd,by have:=r.dp; show A.depth+1+3*k+5<_; lia,by have:=r.un; show A.units+3+16*k+200<_; lia⟩
theorem P5 {A:Around} {C:Addr} {us:List Value} {kw:List (Str×Value)}:(A.under (.builtin "type.__call__" ⟨.ref C::us,kw⟩)).depth=A.depth+1:=by
 first | rfl | simp [Around.under,Code.weight,Code.isCreation,Code.isGuard,Code.isCaller,Code.frames,Code.isFrame,guardIds]
theorem F2 {A:Around} {C:Addr} {us:List Value} {kw:List (Str×Value)}:(A.under (.builtin "type.__call__" ⟨.ref C::us,kw⟩)).units=A.units+1:=by
 first | rfl | simp [Around.under,Code.cUnits,Code.frames,Code.isFrame]
theorem Room.make {k:Nat} {A:Around} (r:Room (k+1) A) (C:Addr) (us:List Value) (kw:List (Str×Value)):Room k (A.under (.builtin "type.__call__" ⟨.ref C::us,kw⟩)):=
 ⟨r.hd,by have:=r.dp; rw[P5]; lia,by have:=r.un; rw[F2]; lia⟩
theorem Room.depth {k:Nat} {A:Around} (r:Room k A):A.depth<recursionLimit:=by have:=r.dp; lia
theorem Room.units {k:Nat} {A:Around} (r:Room k A):A.units+64<cLine:=by have:=r.un; lia
theorem Room.units0 {k:Nat} {A:Around} (r:Room k A):A.units<cLine:=by have:=r.un; lia
def JS:TA:=fun _ H Q=>Q [] H
def NF (ta:TE) (tr:TA):TA:=fun σ H Q=>ta σ H fun x H1=>tr σ H1 fun xs H2=>Q (x::xs) H2
section
variable {X:Cx} {e:Expr} {es:List Expr} {te:TE} {t:TA} {pos:Pos}
theorem Af:PA X [] JS:=fun _ _ _ _ H Q I h=>Calls.spliced_nil ⟨[],H,I,.nil,h⟩
theorem Aa (ha:PE X e te) (hr:PA X es t) (hs:starEach (e::es) X.env=(false,eval e X.env)::starEach es X.env:=by rfl):PA X (e::es) (NF te t):=by
 intro pos pins s σ H Q I h;rw[hs];show wpAny _ _ (spliced ((false,eval e X.env)::backTo pos (starEach es X.env))) _ _ s;refine Calls.spliced_cons (Cs (ha pins s σ H _ I h) fun u s1 ⟨x,H1,I1,r1,q1⟩=>?_);exact Cs (hr pos pins s1 σ H1 _ I1 q1) fun us s2 ⟨xs,H2,I2,r2,q2⟩=>⟨x::xs,H2,I2,.cons r1 r2,q2⟩
def OS (t:TA):TE:=fun σ H Q=>t σ H fun xs H1=>xs.length<=sizeLine/\∀ p,H1 p=none->Q (.ref p) (upd H1 p (.tup xs))
def PU (t:TA):TE:=fun σ H Q=>t σ H fun xs H1=>xs.length<=sizeLine/\∀ p,H1 p=none->Q (.ref p) (upd H1 p (.lst xs))
theorem Cc {x1} (h:PA X es t):PE X (.Tuple es x1 pos) (OS t):=by
 intro pins s σ H Q I hq;refine wpAny_Tuple_spliced (Cs (h pos pins s σ H _ I hq) fun us s1 ⟨xs,H1,I1,r,z,q⟩=>⟨by rw[<- r.length]; exact z,?_⟩);have hf:H1 s1.heap.objs.size=none:=I1.hok.fresh (zAn _);refine⟨.ref s1.heap.objs.size,upd H1 s1.heap.objs.size (.tup xs),I1.laid (t':=s1.toks) (fun b u e=>zAe _ e) (zAn _) ?_,rfl,q _ hf⟩;exact⟨z,us,r,⟨_,zAt _ rfl,rfl,_,rfl⟩⟩
theorem Cg (h:PA X es t):PE X (.List es pos) (PU t):=by
 intro pins s σ H Q I hq;refine wpAny_List_spliced (Cs (h pos pins s σ H _ I hq) fun us s1 ⟨xs,H1,I1,r,z,q⟩=>⟨by rw[<- r.length]; exact z,?_⟩);have hf:H1 s1.heap.objs.size=none:=I1.hok.fresh (zAn _);refine⟨.ref s1.heap.objs.size,upd H1 s1.heap.objs.size (.lst xs),I1.laid (t':=s1.toks) (fun b u e=>zAe _ e) (zAn _) ?_,rfl,q _ hf⟩;exact⟨z,us,0,r,zAt _ rfl⟩
end
abbrev Sp:=List V->Hp->VK->XK->Prop
abbrev AB:=List Env->Hp->Shared->XK->Value->Shared->Prop
structure Env0 (P:Program) (w:World) (K:zAa) (mg:Str->Option Value) (base:Heap) (A:Around) (outer:List Env) (s:Shared) (H:Hp):Prop where
 frames:A.frames=some outer
 mod:Mod K mg base
 bs:∀ b o,base.get? b=some o->s.heap.get? b=some o/\H b=none
 bsz:base.objs.size<=s.heap.objs.size
 funs:s.heap.FunFrames base outer
 frf:∀ b∈AI outer,H b=none
 hok:HOk P w H s.heap
 bare:AllBare s.gens
def CE (outer:List Env) (P:Program) (w:World) (H:Hp) (s:Shared) (Q:VK) (u:Value) (s':Shared):Prop:=
 ∃ v H',s'.os=s.os/\AllBare s'.gens/\Un (AI outer) [] H H' s.heap s'.heap/\HOk P w H' s'.heap/\RelV v u/\Q v H'
def CR (CX:AB) (outer:List Env) (P:Program) (w:World) (H:Hp) (s:Shared) (Q:VK) (E:XK) (r:Result) (s':Shared):Prop:=
 match r with
 | .ok (.ret u)=>CE outer P w H s Q u s'
 | .ok _=>False
 | .error e=>CX outer H s E e s'
structure FnOk (P:Program) (w:World) (K:zAa) (mg:Str->Option Value) (base:Heap) (CX:AB) (k:Nat) (f:Addr) (fd:zCC) (ps:List Str) (sp:Sp):Prop where
 len:∀ vs H Q E,sp vs H Q E->vs.length=ps.length
 run:∀ (A:Around) (outer:List Env) (s:Shared) (H:Hp) (args:Args) (us:List Value) (vs:List V) (Q:VK) (E:XK),Room k A->Env0 P w K mg base A outer s H->BindsTo s fd args (ps.zip us)->Vals vs us->sp vs H Q E ->
  codeAny (model P w) A (.call (.ref f) args) (CR CX outer P w H s Q E) s
theorem FnOk.mono {P:Program} {w:World} {K:zAa} {mg:Str->Option Value} {base:Heap} {CX:AB} {j k:Nat} {f:Addr} {fd:zCC} {ps:List Str} {sp:Sp} (F:FnOk P w K mg base CX j f fd ps sp) (h:j<=k) :
  FnOk P w K mg base CX k f fd ps sp:=⟨F.len,fun A outer s H args us vs Q E hr=>F.run A outer s H args us vs Q E (hr.mono h)⟩
theorem Env0.make {P:Program} {w:World} {K:zAa} {mg:Str->Option Value} {base:Heap} {A:Around} {outer:List Env} {s:Shared} {H:Hp} (e:Env0 P w K mg base A outer s H) (C:Addr) (us:List Value) (kw:List (Str×Value)) :
  Env0 P w K mg base (A.under (.builtin "type.__call__" ⟨.ref C::us,kw⟩)) outer s H:=⟨by first | exact e.frames | (simpa [Around.under,Code.envs,Code.isFrame,pushEnvs] using e.frames),e.mod,e.bs,e.bsz,e.funs,e.frf,e.hok,e.bare⟩
section
variable {X:Cx} {pins:List (Addr×Obj)} {σ:St} {H:Hp} {s s':Shared}
theorem Inv.env0 (I:Inv X pins σ H s):Env0 X.prog X.w X.K X.mg X.base X.A X.stack s H:=
 ⟨I.ok.frames,I.ok.mod,I.bs,zAG I.ok.bsz I.sz,I.stack,I.stkFree,I.hok,I.bare⟩
theorem Inv.after {Q:VK} {u:Value} (I:Inv X pins σ H s) (h:CE X.stack X.prog X.w H s Q u s'):EP X pins σ Q u s':=by
 obtain⟨v,H',os,bare,un,hok,r,q⟩:=h;obtain⟨hh,g,d,t,os'⟩:=s';obtain rfl:os'=s.os:=os;exact⟨v,H',I.call (h':=hh) (g':=g) (d':=d) (t':=t) (ch:=[]) un hok bare (fun b z=>absurd z (by simp)),r,q⟩
end
def V7 (sp:Sp) (dvs:List V) (E:XK) (t:TA):TE:=fun σ H Q=>t σ H fun vs H1=>sp (vs++dvs) H1 Q E
def IU (C:Addr) (m:Str) (sp:Sp) (dvs:List V) (E:XK) (ta:TE) (t:TA):TE:=fun σ H Q=>ta σ H fun x H1=>∃ a dx fs,x = .ref a/\H1 a=some (.ins C dx fs)/\fs.lookup m=none /\
 t σ H1 fun vs H2=>sp (x::(vs++dvs)) H2 Q E
def W5 (C:Addr) (sp:Sp) (dvs:List V) (E:XK) (t:TA):TE:=fun σ H Q=>t σ H fun vs H1=>∀ x dx,H1 x=none->H1 dx=none->dx≠x ->
 sp (.ref x::(vs++dvs)) (upd (upd H1 dx (.own x)) x (.ins C dx [])) (fun v H2=>v = .non/\Q (.ref x) H2) E
def Binds (K:zAa) (fd:zCC) (ps:List Str) (ds:List Value):Prop:=
 ∀ (s:Shared) (us:List Value),K.In s.heap->(us++ds).length=ps.length->BindsTo s fd ⟨us,[]⟩ (ps.zip (us++ds))
theorem Binds.all {K:zAa} {fd:zCC} {ps:List Str} (h:∀ us:List Value,us.length=ps.length->bindArgs fd ⟨us,[]⟩=pure (ps.zip us)):Binds K fd ps []:=fun s us _ hl=>by
 rw[zAY] at hl ⊢;exact .of_eq (h us hl)
def Lf (CX:AB) (X:Cx) (E:XK):Prop:=∀ (pins:List (Addr×Obj)) (σ:St) (H:Hp) (s:Shared) (e:Value) (s':Shared),Inv X pins σ H s->CX X.stack H s E e s'->X.xe e s'
section
variable {X:Cx} {CX:AB} {k:Nat} {f C:Addr} {fd:zCC} {ps:List Str} {sp:Sp} {dvs:List V} {ds:List Value} {E:XK} {x m:Str} {p pos apos:Pos} {e o:Expr} {es:List Expr} {ta:TE} {t:TA}
theorem Ww {pins:List (Addr×Obj)} {σ:St} {H:Hp} {s:Shared} {Q:VK} {us:List Value} {vs:List V} (F:FnOk X.prog X.w X.K X.mg X.base CX k f fd ps sp) (hr:Room k X.A) (hb:Binds X.K fd ps ds) (hd:Vals dvs ds) (hx:Lf CX X E)
  (I:Inv X pins σ H s) (r:Vals vs us) (h:sp (vs++dvs) H Q E):wpAny (model X.prog X.w) X.A (call (.ref f) us) (EP X pins σ Q) X.xe s:=by
 have r2:Vals (vs++dvs) (us++ds):=r.append hd;have hl:(us++ds).length=ps.length:=by rw[<- r2.length]; exact F.len _ _ _ _ h
 refine wpAny_call (codeAny_mono (F.run X.A X.stack s H ⟨us,[]⟩ (us++ds) (vs++dvs) Q E hr I.env0 (hb s us I.kIn hl) r2 h) fun r s' hq=>?_);cases r with
 | error e=>exact hx pins σ H s e s' I hq
 | ok fl=>
  cases fl with
  | ret u=>exact I.after hq
  | next=>exact False.elim hq
  | brk=>exact False.elim hq
  | cont=>exact False.elim hq
theorem HB (F:FnOk X.prog X.w X.K X.mg X.base CX k f fd ps sp) (hr:Room k X.A) (hg:Gl X x) (hm:X.mg x=some (.ref f)) (hk:zAP X.K (.ref f)=true) (hb:Binds X.K fd ps ds) (hd:Vals dvs ds) (hx:Lf CX X E)
  (ha:PA X (e::es) t) (hdb:(x==("__debug__" : Str))=false:=by decide) (he:starEach (e::es) X.env=(false,eval e X.env)::starEach es X.env:=by rfl) (hpl:(backTo pos (starEach es X.env)).any (·.1)=false:=by rfl) :
  PE X (.Call (.Name x p) (e::es) [] pos) (V7 sp dvs E t):=by
 intro pins s σ H Q I h;refine wpAny_Call_Name_kw (Hd I hg hm ?_ hdb);refine zBG (h₀ := X.base) I.ok.mod.kin hk (Cs (ha pos pins s σ H _ I h) fun us s1 ⟨vs,H1,I1,r,q⟩=>⟨I1.kIn,?_⟩) he hpl;exact Ww F hr hb hd hx I1 r q
theorem GL {pl:Sem Bool} (he:PE X o ta) (c:Cls X.K C) (hm:Ef X.K C m f) (F:FnOk X.prog X.w X.K X.mg X.base CX k f fd ps sp) (hr:Room k X.A) (hb:Binds X.K fd ps ds) (hd:Vals dvs ds) (hx:Lf CX X E) (ha:PA X (e::es) t)
  (hst:starEach (e::es) X.env=(false,eval e X.env)::starEach es X.env:=by rfl) (hpl:(backTo pos (starEach es X.env)).any (·.1)=false:=by rfl)
  (ht:eval (.Call (.Attribute o m apos) (e::es) [] pos) X.env=(do
   let ov <- eval o X.env
   standAt apos.atName
   let (f,first) <- holding [ov] (getMethod ov m pl)
   callWith pos f first (backTo pos (starEach (e::es) X.env)) (backToKw pos (keywordEach [] X.env))):=by rfl) :
  PE X (.Call (.Attribute o m apos) (e::es) [] pos) (IU C m sp dvs E ta t):=by
 intro pins s σ H Q I h;refine zBS (pl:=pl) (Cs (he pins s σ H _ I h) fun u s1 ⟨x,H1,I1,rx,a,dx,fs,ex,ea,l,q⟩=>?_) ht;subst ex;obtain rfl:u=Value.ref a:=rx;refine Lp I1 ea c hm l ?_;refine zBG (first:=[.ref a]) (h₀ := X.base) I.ok.mod.kin hm.kp (Cs (ha pos pins s1 σ H1 _ I1 q) fun us s2 ⟨vs,H2,I2,r,q2⟩=>⟨I2.kIn,?_⟩) hst hpl;exact Ww (us:=.ref a::us) (vs:=.ref a::vs) F hr hb hd hx I2 (.cons rfl r) q2
structure Mk (K:zAa) (C f:Addr):Prop where
 makes:zCh K C=true
 init:zAc K (.ref C) "__init__" = some (some (.ref f))
 fn:zCj K (.ref f)=true
 kp:zAP K (.ref C)=true
theorem E9 {pins:List (Addr×Obj)} {σ:St} {H:Hp} {s:Shared} {Q:VK} {us:List Value} {vs:List V} (M:Mk X.K C f) (F:FnOk X.prog X.w X.K X.mg X.base CX k f fd ps sp) (hr:Room (k+1) X.A) (hb:Binds X.K fd ps ds) (hd:Vals dvs ds)
  (hx:Lf CX X E) (I:Inv X pins σ H s) (r:Vals vs us)
  (h:∀ x dx,H x=none->H dx=none->dx≠x->sp (.ref x::(vs++dvs)) (upd (upd H dx (.own x)) x (.ins C dx [])) (fun v H2=>v = .non/\Q (.ref x) H2) E) :
  wpAny (model X.prog X.w) X.A (call (.ref C) us) (EP X pins σ Q) X.xe s:=by
 have hq:=h (s.heap.objs.size+1) s.heap.objs.size (I.hok.fresh (zBl _)) (I.hok.fresh (zAn _)) (zAu (zBB _));have I2:=Inv.made (C:=C) I;have r2:Vals (V.ref (s.heap.objs.size+1)::(vs++dvs)) (Value.ref (s.heap.objs.size+1)::(us++ds)):=.cons rfl (r.append hd);have hl:(Value.ref (s.heap.objs.size+1)::us++ds).length=ps.length:=by
  have e:=r2.length;rw[F.len _ _ _ _ hq] at e;exact e.symm
 refine wpAny_call (CZ (f:=f) I.kIn M.makes M.init (beq_iff_eq.mp M.fn) (codeAny_mono (F.run _ X.stack _ _ ⟨Value.ref (s.heap.objs.size+1)::us,[]⟩ (Value.ref (s.heap.objs.size+1)::(us++ds)) _ _ E (hr.make C us [])
  (I2.env0.make C us []) (hb _ (Value.ref (s.heap.objs.size+1)::us) I2.kIn hl) r2 hq) fun r s' hq'=>?_))
 cases r with
 | error e=>exact hx pins σ _ _ e s' I2 hq'
 | ok fl=>
  cases fl with
  | ret u=>
   obtain⟨v,H',I3,rv,ev,q3⟩:=I2.after hq';subst ev;exact⟨rv,⟨V.ref (s.heap.objs.size+1),H',I3,rfl,q3⟩⟩
  | next=>exact False.elim hq'
  | brk=>exact False.elim hq'
  | cont=>exact False.elim hq'
theorem GT (M:Mk X.K C f) (F:FnOk X.prog X.w X.K X.mg X.base CX k f fd ps sp) (hr:Room (k+1) X.A) (hg:Gl X x) (hm:X.mg x=some (.ref C)) (hb:Binds X.K fd ps ds) (hd:Vals dvs ds) (hx:Lf CX X E)
  (ha:PA X (e::es) t) (hdb:(x==("__debug__" : Str))=false:=by decide) (he:starEach (e::es) X.env=(false,eval e X.env)::starEach es X.env:=by rfl) (hpl:(backTo pos (starEach es X.env)).any (·.1)=false:=by rfl) :
  PE X (.Call (.Name x p) (e::es) [] pos) (W5 C sp dvs E t):=by
 intro pins s σ H Q I h;refine wpAny_Call_Name_kw (Hd I hg hm ?_ hdb);refine zBG (h₀ := X.base) I.ok.mod.kin M.kp (Cs (ha pos pins s σ H _ I h) fun us s1 ⟨vs,H1,I1,r,q⟩=>⟨I1.kIn,?_⟩) he hpl;exact E9 M F hr hb hd hx I1 r q
theorem ER (M:Mk X.K C f) (F:FnOk X.prog X.w X.K X.mg X.base CX k f fd ps sp) (hr:Room (k+1) X.A) (hg:Gl X x) (hm:X.mg x=some (.ref C)) (hb:Binds X.K fd ps ds) (hd:Vals dvs ds) (hx:Lf CX X E)
  (hdb:(x==("__debug__" : Str))=false:=by decide):PE X (.Call (.Name x p) [] [] pos) (W5 C sp dvs E JS):=by
 intro pins s σ H Q I h;refine wpAny_Call_Name_kw (Hd I hg hm ?_ hdb);exact PySem.W.callWith_K0 I.kIn M.kp (E9 (us:=[]) M F hr hb hd hx I .nil h)
end
section
variable {X:Cx} {CX:AB} {k:Nat} {f C:Addr} {fd:zCC} {ps ks:List Str} {sp:Sp} {E:XK} {x m:Str} {p pos apos kpos:Pos} {e o:Expr} {es:List Expr} {kws:List Keyword} {te ta:TE} {t tk:TA} {nm:Option Str}
variable {g:List Value->List Value->List Value} {gV:List V->List V->List V}
end
structure Bb (N P:List Str) (sc:Scope):Prop where
 kind:sc.kind = .function
 co:sc.isCoroutine=false
 gen:sc.isGenerator=false
 nd:N.Nodup
 pre:N.take P.length=P
 par:∀ x∈P,sc.names.lookup x=some .local\/sc.names.lookup x=some .cell
 nofree:∀ y∈sc.names,y.2 ≠ .free
theorem Wd {kindOf:Str->Option NameKind} {x:Str}:∀ {binds:List (Str×Value)} {m:Str->Option Value},(∀ v,(x,v)∉binds)->bindL kindOf binds m x=m x
 | [],_,_=>rfl
 | (n,v)::r,m,h=>by
  unfold bindL;rw[Wd fun w hw=>h w (zAg _ hw)]
  split
  ·have:x≠n:=by rintro rfl; exact h v zAj
   simp [this]
  ·rfl
theorem Vd {kindOf:Str->Option NameKind} {x:Str}:∀ {binds:List (Str×Value)} {m:Str->Option Value},(∀ v,(x,v)∉binds)->bindC kindOf binds m x=m x
 | [],_,_=>rfl
 | (n,v)::r,m,h=>by
  unfold bindC;rw[Vd fun w hw=>h w (zAg _ hw)]
  split
  ·rfl
  ·have:x≠n:=by rintro rfl; exact h v zAj
   simp [this]
theorem Wa {kindOf:Str->Option NameKind} {x:Str} {v:Value}:∀ {P:List Str} {vs:List Value} {i:Nat} {m:Str->Option Value},P.Nodup->P[i]?=some x->vs[i]?=some v->kindOf x=some .local ->
  bindL kindOf (P.zip vs) m x=some v
 | [],_,_,_,_,h,_,_=>by simp at h
 | _::_,[],_,_,_,_,h,_=>by simp at h
 | p::P,w::vs,0,m,nd,h1,h2,hk=>by
  simp at h1 h2; subst h1; subst h2;show bindL kindOf ((p,w)::P.zip vs) m p=_;unfold bindL;rw[Wd fun v hv=>(zAT.mp nd).1 (List.of_mem_zip hv).1,if_pos hk];simp
 | p::P,w::vs,i+1,m,nd,h1,h2,hk=>by
  show bindL kindOf ((p,w)::P.zip vs) m x=_;unfold bindL;exact Wa (i:=i) (zAT.mp nd).2 (by simpa using h1) (by simpa using h2) hk
theorem Ve {kindOf:Str->Option NameKind} {x:Str} {v:Value}:∀ {P:List Str} {vs:List Value} {i:Nat} {m:Str->Option Value},P.Nodup->P[i]?=some x->vs[i]?=some v->kindOf x≠some .local ->
  bindC kindOf (P.zip vs) m x=some v
 | [],_,_,_,_,h,_,_=>by simp at h
 | _::_,[],_,_,_,_,h,_=>by simp at h
 | p::P,w::vs,0,m,nd,h1,h2,hk=>by
  simp at h1 h2; subst h1; subst h2;show bindC kindOf ((p,w)::P.zip vs) m p=_;unfold bindC;rw[Vd fun v hv=>(zAT.mp nd).1 (List.of_mem_zip hv).1,if_neg hk];simp
 | p::P,w::vs,i+1,m,nd,h1,h2,hk=>by
  show bindC kindOf ((p,w)::P.zip vs) m x=_;unfold bindC;exact Ve (i:=i) (zAT.mp nd).2 (by simpa using h1) (by simpa using h2) hk
def Mn (N:List Str) (vs:List V):St:=vs.map some++zAv (N.length-vs.length) none
def F4 (CX:AB) (P:Program) (w:World) (K:zAa) (mg:Str->Option Value) (base:Heap) (N:List Str) (qual:Str) (scope:Scope) (f:Addr) (cd:Value) (A:Around) (outer:List Env) (s:Shared) (H:Hp) (E:XK):Cx where
 prog:=P
 w:=w
 K:=K
 mg:=mg
 base:=base
 A:=A.deeper (envOfC qual scope s.heap.objs.size f cd)
 N:=N
 s₀ := s
 H₀ := H
 env:=envOfC qual scope s.heap.objs.size f cd
 outer:=outer
 stack:=envOfC qual scope s.heap.objs.size f cd::outer
 ex:=[]
 calm:=true
 fn:=fun _=>true
 pn:=[]
 xe:=fun e s'=>wpAny (model P w) (A.deeper (envOfC qual scope s.heap.objs.size f cd)) (leaving (envOfC qual scope s.heap.objs.size f cd) e) (fun _ s''=>CX outer H s E e s'') (fun e' s''=>CX outer H s E e' s'') s'
theorem D8 {sc:Scope} {n:Nat} {x:Str} (h:sc.names.lookup x=some .cell):∃ c,(cellsFrom n sc.names []).lookup x=some c:=by
 have q:=PySem.W.cellsFrom_some sc.names n [] (.inl h);exact Option.isSome_iff_exists.mp q
theorem X2 {CX:AB} {P:Program} {w:World} {K:zAa} {mg:Str->Option Value} {base:Heap} {N ps:List Str} {qual:Str} {scope:Scope} {f:Addr} {cd:Value} {A:Around} {outer:List Env} {s s1:Shared} {H:Hp} {E:XK} {us:List Value} {vs:List V}
  (S:Bb N ps scope) (hd:A.handled=none) (e0:Env0 P w K mg base A outer s H) (hl:vs.length=ps.length) (r:Vals vs us)
  (x:InCallC s s.heap.objs.size (bindL (envOfC qual scope s.heap.objs.size f cd).kindOf (ps.zip us) fun _=>none) (cellsFrom (s.heap.objs.size+1) scope.names []) (bindC (envOfC qual scope s.heap.objs.size f cd).kindOf (ps.zip us) fun _=>none) s1) :
  Inv (F4 CX P w K mg base N qual scope f cd A outer s H E) [] (Mn N vs) H s1:=by
 have hpl:ps.length<=N.length:=by have:=congrArg List.length S.pre; rw[zAx] at this; lia
 obtain⟨h1,tk,rfl,hk⟩:=x.done;have noA:∀ b:Addr,b∉(F4 CX P w K mg base N qual scope f cd A outer s H E).ex:=fun b z=>absurd (show b∈([]:List Addr) from z) (by simp);refine⟨⟨e0.mod,S.kind,rfl,rfl,zAn _,fun y z c h1 h2=>?_,fun y hy=>?_,fun y c _ h=>?_,fun _=>hd,Around.frames_deeper e0.frames,.inr ⟨rfl,rfl⟩,fun b z=>absurd z (noA b),e0.bs,e0.bsz,fun b _ _=>noA b,fun b z=>absurd z (noA b),e0.funs,e0.frf⟩,
  rfl,e0.bare,Un.kept hk,⟨_,x.toInCall.ns,fun i y v h1 h2 h3=>?_⟩,fun y c h=>⟨_,x.cell y c h⟩,e0.hok.fresh (zAn _),fun y c h=>?_,fun p hp=>absurd (show p∈([]:List (Addr×Obj)) from hp) (by simp),e0.hok.kept hk,?_⟩
 ·exact name_of_addr x.apart (PySem.mem_of_lookup h1) (PySem.mem_of_lookup h2)
 ·have hy:scope.names.lookup y=some .cell\/scope.names.lookup y=some .free:=hy
  rcases hy with hy | hy
  ·exact D8 hy
  ·exact absurd rfl (S.nofree _ (PySem.mem_of_lookup hy))
 ·exact Nat.le_of_lt (x.above y c (PySem.mem_of_lookup h))
 ·have hi:i<vs.length:=by
   unfold Mn at h2;by_cases hi:i<vs.length
   ·exact hi
   ·rw[zCd (by simpa using hi)] at h2
    rw[List.getElem?_replicate] at h2
    split at h2 <;> cases h2
  have ha:vs[i]?=some v:=by
   unfold Mn at h2;rw[List.getElem?_append_left (by simpa using hi),zAw] at h2;cases e:vs[i]? with
   | none=>rw[e] at h2; cases h2
   | some a=>rw[e] at h2; cases h2; rfl
  obtain⟨u,hu,rv⟩:=r.get ha;have hp:ps[i]?=some y:=by
   rw[<- S.pre,List.getElem?_take_of_lt (by lia)]; exact h1
  have ndP:ps.Nodup:=by rw[<- S.pre]; exact S.nd.sublist (List.take_sublist _ _)
  refine⟨u,rv,?_⟩;rcases S.par y (zAF hp) with k | k
  ·exact .inl ⟨k,Wa ndP hp hu k⟩
  ·obtain⟨c,e⟩:=D8 (n:=s.heap.objs.size+1) k
   refine .inr ⟨.inl k,c,e,?_⟩;have q:=x.cell y c e;rw[Ve ndP hp hu (by show scope.names.lookup y≠_; rw[k]; decide)] at q;exact q
 ·exact e0.hok.fresh (Nat.le_of_lt (x.above y c (PySem.mem_of_lookup h)))
 ·unfold Mn
  show _=N.length;rw[zAm,zAb,zBe]
  lia
theorem IA {CX:AB} {P:Program} {w:World} {K:zAa} {mg:Str->Option Value} {base:Heap} {k:Nat} {f:Addr} {name qual:Str} {params:Arguments} {body:List Stmt} {scope:Scope} {dV kV doc pm cdv ct oc:Value} {an od:Option Addr}
  {osl:Array (Option Value)} {N ps:List Str} {sp:Sp} (lk:K.lookup f=some ⟨oc,od,.func (zAS name qual params body scope dV kV doc pm an cdv ct),osl⟩) (hcd:zBq K cdv qual=true) (S:Bb N ps scope)
  (len:∀ vs H Q E,sp vs H Q E->vs.length=ps.length)
  (hbody:∀ (A:Around) (outer:List Env) (s:Shared) (H:Hp) (vs:List V) (Q:VK) (E:XK),Room k (A.deeper (envOfC qual scope s.heap.objs.size f cdv))->sp vs H Q E ->
   ∃ t,PSs (F4 CX P w K mg base N qual scope f cdv A outer s H E) body t/\t { nx:=fun _ H'=>Q .non H',rt:=Q } (Mn N vs) H) :
  FnOk P w K mg base CX (k+1) f (zAS name qual params body scope dV kV doc pm an cdv ct) ps sp:=by
 refine⟨len,fun A outer s H args us vs Q E hr e0 hb r hsp=>?_⟩;have hl:=len _ _ _ _ hsp;have KX:K.In s.heap:=e0.mod.kin.keeps fun b o e=>(e0.bs b o e).1;have lim:s.heap.NoLimit:=e0.mod.nolimit.keeps fun b o e=>(e0.bs b o e).1;have hkind:∀ y∈ps.zip us,scope.names.lookup y.1=some .local\/(scope.names.lookup y.1=some .cell/\((cellsFrom (s.heap.objs.size+1) scope.names []).lookup y.1).isSome=true):=fun ⟨n,v⟩ hy=>by
  rcases S.par n (List.of_mem_zip hy).1 with q | q
  ·exact .inl q
  ·exact .inr ⟨q,PySem.W.cellsFrom_some _ _ _ (.inl q)⟩
 refine codeAny_call_function hr.depth (KX _ _ lk) rfl S.co S.gen rfl (PySem.W.codeRec_of KX hcd) (hb _ _ _ _ ?_);refine wpAny_newFunctionEnv_cells S.kind hkind fun env he s1 x=>?_;subst he;refine⟨lim.keeps x.toInCall.keep,codeAny_func ?_⟩;obtain⟨t,ht,hq⟩:=hbody A outer s H vs Q E (hr.deeper _) hsp;have I:Inv (F4 CX P w K mg base N qual scope f cdv A outer s H E) [] (Mn N vs) H s1:=X2 S hr.hd e0 hl r x;refine wpAny_mono (ht [] s1 (Mn N vs) H _ I hq) (fun fl s' hs=>?_) fun e s' hs=>hs;have fin:∀ {σ':St} {H':Hp} {v:V} {u:Value},Inv (F4 CX P w K mg base N qual scope f cdv A outer s H E) [] σ' H' s'->RelV v u->Q v H'->CE outer P w H s Q u s':=
  fun {σ' H' v u} J rv q=>⟨v,H',J.os,J.bare,J.base,J.hok,rv,q⟩
 cases fl with
 | ret u=>
  obtain⟨v,σ',H',J,rv,q⟩:=hs;exact fin J rv q
 | next=>
  obtain⟨σ',H',J,q⟩:=hs;exact fin (v:=V.non) (u:=Value.none) J rfl q
 | brk=>
  obtain⟨_,_,_,q⟩:=hs;exact False.elim q
 | cont=>
  obtain⟨_,_,_,q⟩:=hs;exact False.elim q
section
variable {X:Cx} {x:Str} {p pos:Pos} {e:Expr} {es:List Expr} {t:TA} {id T:String} {r:List V->Hp->VK->Prop}
def QL (r:List V->Hp->VK->Prop) (t:TA):TE:=fun σ H Q=>t σ H fun vs H1=>r vs H1 Q
theorem Bn (hc:Gf X (.builtin id) r) (hg:Gl X x) (hm:X.mg x=none) (hv:zCB x=some (.builtin id)) (ha:PA X (e::es) t) (hn:x ≠ "__name__" := by decide) (hdb:(x==("__debug__" : Str))=false:=by decide)
  (he:starEach (e::es) X.env=(false,eval e X.env)::starEach es X.env:=by rfl) (hpl:(backTo pos (starEach es X.env)).any (·.1)=false:=by rfl):PE X (.Call (.Name x p) (e::es) [] pos) (QL r t):=by
 intro pins s σ H Q I h;refine wpAny_Call_Name_kw (Hu I hg hm hv ?_ hn hdb);exact PyProof.Rows.callWith_builtin1 (Cs (ha pos pins s σ H _ I h) fun us s1 ⟨vs,H1,I1,r1,q1⟩=>hc pins s1 σ H1 vs us Q I1 r1 q1) he hpl
theorem Dz (hc:Gf X (.type T) r) (hg:Gl X x) (hm:X.mg x=none) (hv:zCB x=some (.type T)) (ha:PA X (e::es) t) (hn:x ≠ "__name__" := by decide) (hdb:(x==("__debug__" : Str))=false:=by decide)
  (he:starEach (e::es) X.env=(false,eval e X.env)::starEach es X.env:=by rfl) (hpl:(backTo pos (starEach es X.env)).any (·.1)=false:=by rfl):PE X (.Call (.Name x p) (e::es) [] pos) (QL r t):=by
 intro pins s σ H Q I h;refine wpAny_Call_Name_kw (Hu I hg hm hv ?_ hn hdb);exact PyProof.Rows.callWith_type1 (Cs (ha pos pins s σ H _ I h) fun us s1 ⟨vs,H1,I1,r1,q1⟩=>hc pins s1 σ H1 vs us Q I1 r1 q1) he hpl
end
end L2
namespace HT
open PySem PyProof.Rows
def lexLt:List Int->List Int->Bool
 | [],[]=>false
 | [],_::_=>true
 | _::_,[]=>false
 | x::xs,y::ys=>if x=y then lexLt xs ys else decide (x<y)
theorem lexLt_cons (x y:Int) (xs ys:List Int):lexLt (x::xs) (y::ys)=if x=y then lexLt xs ys else decide (x<y):=rfl
section
open PySem.SeqAt
open PySem.AutoSeq1 (wpAny_loadPart')
open PySem.MeetsSeq PySem.MeetsSeq2 PySem.MeetsSeq3
end
section
variable {prog:Program} {w:World} {A:Around} {E:Value->Shared->Prop} {s:Shared}
def sIx (n d:Nat):Option Int->Nat
 | none=>d
 | some v=>if v<0 then (v+(n:Int)).toNat else min v.toNat n
theorem sIx_none (n d:Nat):sIx n d none=d:=rfl
theorem sIx_nat (n d k:Nat):sIx n d (some (k:Int))=min k n:=by
 show (if (k:Int)<0 then ((k:Int)+(n:Int)).toNat else min (k:Int).toNat n)=min k n;rw[if_neg (by lia),Int.toNat_natCast]
end
end HT
namespace L2
open PySem PySem.Spec PyProof.Rows
abbrev TO:=St->Hp->(Option Int->Hp->Prop)->Prop
def PO (X:Cx) (e:Option Expr) (t:TO):Prop:=
 ∀ (pins:List (Addr×Obj)) (s:Shared) (σ:St) (H:Hp) (Q:Option Int->Hp->Prop),Inv X pins σ H s->t σ H Q ->
  wpAny (model X.prog X.w) X.A (evalPart e X.env) (fun u s'=>∃ o H',Inv X pins σ H' s'/\IsPart u o/\Q o H') X.xe s
def HR:TO:=fun _ H Q=>Q none H
def MI (t:TE):TO:=fun σ H Q=>t σ H fun x H1=>∃ i,x = .int i/\Q (some i) H1
theorem Md {ns:List Int}:∀ {us:List Value},Vals (ns.map V.int) us->IntsAre us ns:=by
 induction ns with
 | nil=>intro us r; rw[List.map_nil] at r; cases r; exact .nil
 | cons n ns ih=>
  intro us r;rw[zAN] at r;cases r with
  | cons r1 r2=>
   obtain⟨t,e⟩:=r1;subst e;exact .cons n t (ih r2)
section
variable {X:Cx} {e:Expr} {te:TE} {lo hi:Option Expr} {tl th:TO} {pos p2:Pos}
theorem Fx:PO X none HR:=by
 intro pins s σ H Q I h;rw[evalPart_none];exact zCz ⟨none,H,I,.none,h⟩
theorem Fy (h:PE X e te):PO X (some e) (MI te):=by
 intro pins s σ H Q I hw;rw[evalPart_some];refine Cs (h pins s σ H _ I hw) fun u s1 ⟨x,H1,I1,r1,q1⟩=>?_;obtain⟨i,rfl,q⟩:=q1;obtain⟨t,rfl⟩:=r1;exact⟨some i,H1,I1,.int i t,q⟩
def QJ (X:Cx) (r:V->Option Int->Option Int->Hp->VK->Prop):Prop:=
 ∀ (pins:List (Addr×Obj)) (s:Shared) (σ:St) (H:Hp) (x:V) (v vl vu:Value) (lo hi:Option Int) (sl:Addr) (Q:VK),Inv X pins σ H s->RelV x v->s.heap.IsSliceOf sl vl vu .none->IsPart vl lo->IsPart vu hi->r x lo hi H Q ->
  ∃ T id,typeLookup (.type T) "__getitem__" = pure (some (.builtin id))/\s.TypeIs v T/\wpAny (model X.prog X.w) X.A (getItem v (.ref sl)) (EP X pins σ Q) X.xe s
def QY (r:V->Option Int->Option Int->Hp->VK->Prop) (te:TE) (tl th:TO):TE:=fun σ H Q=>te σ H fun x H1=>tl σ H1 fun l H2=>th σ H2 fun u H3=>r x l u H3 Q
theorem Ep {r:V->Option Int->Option Int->Hp->VK->Prop} (hr:QJ X r) (he:PE X e te) (hl:PO X lo tl) (hu:PO X hi th):PE X (.Subscript e (.Slice lo hi none p2) pos) (QY r te tl th):=by
 intro pins s σ H Q I h;refine Subscript_ (Cs (he pins s σ H _ I h) fun v s1 ⟨x,H1,I1,r1,q1⟩=>?_);refine wpAny_Slice (Cs (hl pins s1 σ H1 _ I1 q1) fun vl s2 ⟨l,H2,I2,pl,q2⟩=>Cs (hu pins s2 σ H2 _ I2 q2) fun vu s3 ⟨u,H3,I3,pu,q3⟩=>?_);rw[evalPart_none];refine zCz ?_;have I4:Inv X pins σ H3 { s3 with heap:=s3.heap.push { cls:=.type "slice",data:=.fields #[vl,vu,.none] } }:=I3.kept (t':=s3.toks) fun b ob q=>zAe _ q;obtain⟨T,id,hT,ht,hg⟩:=hr pins { s3 with heap:=s3.heap.push { cls:=.type "slice",data:=.fields #[vl,vu,.none] } } σ H3 x v vl vu l u s3.heap.objs.size Q I4 r1 (Heap.IsSliceOf.new ..) pl pu q3;show wpAny (model X.prog X.w) X.A (subscriptTail e (.Slice lo hi none p2) v (.ref s3.heap.objs.size)) (EP X pins σ Q) X.xe { s3 with heap:=s3.heap.push { cls:=.type "slice",data:=.fields #[vl,vu,.none] } };exact tail_any (ops:=[.ref s3.heap.objs.size,v]) ht hT hg (by with_unfolding_all rfl)
def Op (xs:List V) (lo hi:Option Int):List V:=(xs.drop (HT.sIx xs.length 0 lo)).take (HT.sIx xs.length xs.length hi-HT.sIx xs.length 0 lo)
theorem Zt (xs:List V) (lo hi:Option Int):(Op xs lo hi).length<=xs.length:=by
 unfold Op;rw[zAx,zBn]
 lia
end
def FV (n:Nat) (i:Int):Option Nat:=if 0<=i then (if i<n then some i.toNat else none) else if -(n:Int)<=i then some (i+n).toNat else none
def Me {α:Type} (xs:List α) (i:Int):Option α:=(FV xs.length i).bind fun j=>xs[j]?
theorem Q6 {n:Nat} {i:Int} {j:Nat} (h:FV n i=some j):seqIndex? i n=some j/\j<n/\-(n:Int)<=i/\i<n:=by
 unfold FV at h;by_cases h0:0<=i
 ·rw[if_pos h0] at h
  by_cases h1:i<n
  ·rw[if_pos h1] at h
   have e:i.toNat=j:=Option.some.inj h;exact⟨by rw[seqIndex_of h0 h1,e],by lia,by lia,h1⟩
  ·rw[if_neg h1] at h; cases h
 ·rw[if_neg h0] at h
  by_cases h1 : -(n:Int)<=i
  ·rw[if_pos h1] at h
   have e:(i+n).toNat=j:=Option.some.inj h;exact⟨by rw[seqIndex_neg (by lia) h1,e],by lia,h1,by lia⟩
  ·rw[if_neg h1] at h; cases h
theorem Xa {α:Type} {xs:List α} {i:Int} {v:α} (h:Me xs i=some v):∃ j,seqIndex? i xs.length=some j/\xs[j]?=some v/\j<xs.length/\-(xs.length:Int)<=i/\i<xs.length:=by
 unfold Me at h;cases e:FV xs.length i with
 | none=>rw[e] at h; cases h
 | some j=>
  rw[e] at h;obtain⟨h1,h2,h3,h4⟩:=Q6 e;exact⟨j,h1,h,h2,h3,h4⟩
theorem Dr {α:Type} {xs:List α} {j:Nat} {v:α} (h:xs[j]?=some v):Me xs (j:Int)=some v:=by
 have hj:j<xs.length:=(zAi.mp h).1;have e:FV xs.length (j:Int)=some j:=by
  unfold FV;rw[if_pos (by lia),if_pos (by lia)]; simp
 unfold Me; rw[e]; exact h
theorem CI {α:Type} (xs:List α) (v:α):Me (xs++[v]) (-1)=some v:=by
 have hl:(xs++[v]).length=xs.length+1:=by simp
 have e:FV (xs++[v]).length (-1)=some xs.length:=by
  unfold FV;rw[hl,if_neg (by decide),if_pos (by lia)]
  congr 1
  lia
 unfold Me;rw[e];show (xs++[v])[xs.length]?=some v;simp
def HK (b:Expr):Prop:=∀ o i,subscripted b false o i=operate [o,i] (getItem o i)
def LO (X:Cx) (r:R2):Prop:=
 ∀ (value slice:Expr) (pins:List (Addr×Obj)) (s:Shared) (σ:St) (H:Hp) (x y:V) (v u:Value) (Q:VK),Inv X pins σ H s->RelV x v->RelV y u->r x y H Q ->
  subscripted slice false v u=operate [v,u] (getItem v u)->wpAny (model X.prog X.w) X.A (subscriptTail value slice v u) (EP X pins σ Q) X.xe s
def QA (X:Cx) (id:String) (r:V->List V->Hp->VK->Prop):Prop:=
 ∀ (pins:List (Addr×Obj)) (s:Shared) (σ:St) (H:Hp) (x:V) (xs:List V) (v:Value) (us:List Value) (Q:VK),Inv X pins σ H s->RelV x v->Vals xs us->r x xs H Q ->
  wpAny (model X.prog X.w) X.A (call (.builtin id) (v::us)) (EP X pins σ Q) X.xe s
section
variable {X:Cx} {a b:Expr} {ta tb:TE} {pos:Pos}
theorem Bh {r:R2} (hr:LO X r) (ha:PE X a ta) (hb:PE X b tb) (hs:HK b):PE X (.Subscript a b pos) (OB r ta tb):=by
 intro pins s σ H Q I h;exact Subscript_ (JX ha hb I h fun v u s2 x y H2 I2 rx ry q=>hr a b pins s2 σ H2 x y v u Q I2 rx ry q (hs _ _))
def NR (K:zAa):R2:=fun x y H Q=>∃ p xs i v,x = .ref p/\y = .int i/\SqL K H p xs/\Me xs i=some v/\Q v H
def MV (K:zAa):R2:=fun x y H Q=>∃ p xs i v,x = .ref p/\y = .int i/\SqT K H p xs/\Me xs i=some v/\Q v H
def OY:R2:=fun x y H Q=>∃ z i c,x = .str z/\y = .int i/\z.length<=sizeLine/\Me z.cps.toList i=some c/\Q (.str ⟨#[c]⟩) H
theorem Bo:LO X (NR X.K):=by
 intro value slice pins s σ H x y v u Q I rx ry h hs;obtain⟨p,xs,i,z,rfl,rfl,hq,he,q⟩:=h;cases rx;obtain⟨t,rfl⟩:=ry;obtain⟨its,r,pl,hz⟩:=I.list hq;obtain⟨j,h1,h2,h3,h4,h5⟩:=Xa he;obtain⟨w,ew,rw'⟩:=r.get h2;have hl:=r.length;have hn:=Lh;have fin:EP X pins σ Q w s:=⟨z,H,I,rw',q⟩;by_cases h0:0<=i
 ·have hj:i.toNat=j:=by
   rw[seqIndex_of h0 h5] at h1;exact Option.some.inj h1
  exact item_listR pl.isList h0 (by lia) (by rw[hj]; simpa using ew) fin hs
 ·have hj:(i+(its.toArray.size:Int)).toNat=j:=by
   rw[seqIndex_neg (by lia) h4] at h1;rw[zAh,<- hl];exact Option.some.inj h1
  exact subscriptTail_builtinR (x:=w) pl.isList.typeIs slot_list_getitem.lookup
   (wpAny_getItem_list_neg (Q:=fun r s'=>r=w/\EP X pins σ Q r s') pl.isList (by lia) (by rw[zAh] <;> lia) (by lia) (by rw[hj]; simpa using ew) ⟨rfl,fin⟩) hs
theorem Bp:LO X (MV X.K):=by
 intro value slice pins s σ H x y v u Q I rx ry h hs;obtain⟨p,xs,i,z,rfl,rfl,hq,he,q⟩:=h;cases rx;obtain⟨t,rfl⟩:=ry;obtain⟨its,r,pl,hz⟩:=I.tuple hq;obtain⟨j,h1,h2,h3,h4,h5⟩:=Xa he;obtain⟨w,ew,rw'⟩:=r.get h2;have hl:=r.length;have hn:=Lh;have fin:EP X pins σ Q w s:=⟨z,H,I,rw',q⟩;exact subscriptTail_builtinR (x:=w) pl.typeIs slot_tuple_getitem.lookup
  (getItem_tuple (j:=j) (Q:=fun r s'=>r=w/\EP X pins σ Q r s') pl (by lia) (by lia) (by rw[zAh,<- hl]; exact h1) (by simpa using ew) ⟨rfl,fin⟩) hs
theorem EL:LO X OY:=by
 intro value slice pins s σ H x y v u Q I rx ry h hs;obtain⟨z,i,c,rfl,rfl,hz,he,q⟩:=h;obtain⟨t,rfl⟩:=rx;obtain⟨t',rfl⟩:=ry;obtain⟨j,h1,h2,h3,h4,h5⟩:=Xa he;have hl:z.cps.toList.length=z.length:=by simp [Str.length]
 rw[hl] at h1 h4 h5;have hn:=Lh;exact tail_any (typeIs_str s z t) slot_str_getitem.lookup (getItem_str (c:=c) (by
  have e1:decide (i < -(2^63:Int))=false:=decide_eq_false (by lia);have e2:decide (i≥2^63)=false:=decide_eq_false (by lia);rw[e1,e2,Bool.or_false]) (by rw[h1]; simpa using h2) ⟨.str ⟨#[c]⟩,H,I.tok _,⟨_,rfl⟩,q⟩) hs
theorem G8 (its:List Value) (n j:Nat) (u:Value):Obj.mapSeq (·.setIfInBounds j u) { cls:=.type "list",data:=.seq its.toArray n }={ cls:=.type "list",data:=.seq (its.set j u).toArray n }:=by
 simp [Obj.mapSeq]
theorem Inv.lst {pins:List (Addr×Obj)} {σ:St} {H:Hp} {s:Shared} {p:Addr} {xs:List V} (I:Inv X pins σ H s) (h:H p=some (.lst xs)) :
  ∃ (its:List Value) (n:Nat),Vals xs its/\s.heap.get? p=some { cls:=.type "list",data:=.seq its.toArray n }/\xs.length<=sizeLine:=by
 obtain⟨z,its,n,r,e⟩:=I.hok p _ h;exact⟨its,n,r,e,z⟩
theorem Inv.lstUpd {pins:List (Addr×Obj)} {σ:St} {H:Hp} {s:Shared} {p:Addr} {xs ys:List V} {its its':List Value} {n n':Nat} {f:Obj->Obj} (I:Inv X pins σ H s) (h:H p=some (.lst xs))
  (ho:s.heap.get? p=some { cls:=.type "list",data:=.seq its.toArray n }) (hf:f { cls:=.type "list",data:=.seq its.toArray n }={ cls:=.type "list",data:=.seq its'.toArray n' }) (r:Vals ys its') (hz:ys.length<=sizeLine) (t:Nat) :
  Inv X pins σ (upd H p (.lst ys)) { s with heap:=s.heap.update p f,toks:=t }:=by
 have e:(s.heap.update p f).get? p=some { cls:=.type "list",data:=.seq its'.toArray n' }:=by
  rw[zBT f ho (by rw[hf] <;> rfl),hf]
 refine I.write (x:=p) (e:=p) (by rw[h]; trivial) (.inl rfl) (fun b u hb q=>(zBP _ _ (Ne.symm hb)).trans q) ⟨_,e⟩ ?_;exact⟨hz,its',n',r,e⟩
def MH:V->V->V->Hp->(Hp->Prop)->Prop:=fun o i v H Q=>∃ p xs k j,o = .ref p/\i = .int k/\H p=some (.lst xs)/\FV xs.length k=some j/\Q (upd H p (.lst (xs.set j v)))
theorem E2:MJ X MH:=by
 intro pins s σ H o i v ov iv u Q I ro ri rv h;obtain⟨p,xs,k,j,rfl,rfl,hp,hj,q⟩:=h;cases ro;obtain⟨t,rfl⟩:=ri;obtain⟨its,n,r,ho,hz⟩:=I.lst hp;obtain⟨h1,h2,h3,h4⟩:=Q6 hj;have hl:=r.length;have hn:=Lh;have I':Inv X pins σ (upd H p (.lst (xs.set j v))) { s with heap:=s.heap.update p (Obj.mapSeq (·.setIfInBounds j u)) }:=
  I.lstUpd hp ho (G8 its n j u) (r.set rv j) (by rw[List.length_set]; exact hz) s.toks
 by_cases h0:0<=k
 ·have hk:k.toNat=j:=by
   rw[seqIndex_of h0 h4] at h1;exact Option.some.inj h1
  exact PySem.W.ki_setAt ho h0 (by lia) (by rw[zAh,<- hl]; exact h4) (by rw[hk]; exact⟨_,I',q⟩)
 ·have hk:(k+(its.toArray.size:Int)).toNat=j:=by
   rw[seqIndex_neg (by lia) h3] at h1;rw[zAh,<- hl];exact Option.some.inj h1
  exact PySem.W.ki_setBack ho (by lia) (by rw[zAh,<- hl]; exact h3) (by lia) (by rw[hk]; exact⟨_,I',q⟩)
theorem Yd (lo hi:Option Int) (n:Nat):(sliceBounds lo hi none n).1=((HT.sIx n 0 lo:Nat):Int)/\(sliceBounds lo hi none n).2.1=((HT.sIx n n hi:Nat):Int)/\(sliceBounds lo hi none n).2.2=1:=by
 refine⟨?_,?_,rfl⟩
 ·cases lo with
  | none=>simp [sliceBounds,HT.sIx]
  | some i=>
   simp only [sliceBounds,HT.sIx,Option.getD_none,show (1:Int)>0 by decide,if_true];by_cases h:i<0
   ·simp only [h,if_true] <;> lia
   ·simp only [h,if_false] <;> lia
 ·cases hi with
  | none=>simp [sliceBounds,HT.sIx]
  | some i=>
   simp only [sliceBounds,HT.sIx,Option.getD_none,show (1:Int)>0 by decide,if_true];by_cases h:i<0
   ·simp only [h,if_true] <;> lia
   ·simp only [h,if_false] <;> lia
theorem Tv (its:List Value) (lo hi:Option Int):slicePick its.toArray lo hi none=((its.drop (HT.sIx its.length 0 lo)).take (HT.sIx its.length its.length hi-HT.sIx its.length 0 lo)).toArray:=by
 obtain⟨h1,h2,h3⟩:=Yd lo hi its.toArray.size;unfold slicePick;rw[h1,h2,h3];simp only [sliceRange_one,pick_run,zAh] <;> rfl
def OI (K:zAa):V->Option Int->Option Int->Hp->VK->Prop:=fun x lo hi H Q=>∃ a xs,x = .ref a/\SqL K H a xs/\∀ p,H p=none->Q (.ref p) (upd H p (.lst (Op xs lo hi)))
theorem Fz:QJ X (OI X.K):=by
 intro pins s σ H x v vl vu lo hi sl Q I rx hs pl pu h;obtain⟨a,xs,rfl,hx,q⟩:=h;cases rx;obtain⟨its,r,ht,hz⟩:=I.list hx;have hlen:=r.length;refine⟨"list",_,slot_list_getitem.lookup,ht.isList.typeIs,?_⟩;refine wpAny_getItem_list_slice ht.isList hs pl pu .none (by simp) ?_ (by rw[zAh] <;> lia);rw[Tv,<- hlen];refine⟨.ref s.heap.objs.size,_,I.laid (t':=s.toks) (o:=.lst (Op xs lo hi)) (fun b ob q=>zAe _ q) (zAn _) ?_,rfl,q _ (I.hok.fresh (zAn _))⟩;exact⟨zAG (Zt xs lo hi) hz,_,0,(r.drop (HT.sIx xs.length 0 lo)).take (HT.sIx xs.length xs.length hi-HT.sIx xs.length 0 lo),zAt _ rfl⟩
def Ew:V->Bool
 | .non=>true
 | .bl _=>true
 | .int _=>true
 | .str _=>true
 | _=>false
def Wc:V->V->Bool
 | .non,.non=>true
 | .bl a,.bl b=>a==b
 | .bl a,.int b=>(if a then 1 else 0)==b
 | .int a,.bl b=>a==(if b then 1 else 0)
 | .int a,.int b=>a==b
 | .str a,.str b=>a==b
 | _,_=>false
theorem L9 {A:Around} {s:Shared} {y x:V} {u v:Value} (ry:RelV y u) (rx:RelV x v) (fy:Ew y=true) (fx:Ew x=true):SeqAt.EqAt A s u v (Wc y x):=by
 cases y with
 | non=>
  cases ry
  cases x with
  | non=>cases rx; exact SeqAt.EqAt.same _
  | bl b=>cases rx; exact SeqAt.EqAt.none_bool b
  | int b=>obtain⟨t,rfl⟩:=rx; exact SeqAt.EqAt.none_int b t
  | str b=>obtain⟨t,rfl⟩:=rx; exact SeqAt.EqAt.none_str b t
  | _=>exact absurd (show false=true from fx) zAl
 | bl a=>
  cases ry
  cases x with
  | non=>cases rx; exact SeqAt.EqAt.bool_none a
  | bl b=>cases rx; exact SeqAt.EqAt.bool_bool a b
  | int b=>obtain⟨t,rfl⟩:=rx; exact SeqAt.EqAt.bool_int a b t
  | str b=>obtain⟨t,rfl⟩:=rx; exact SeqAt.EqAt.bool_str a b t
  | _=>exact absurd (show false=true from fx) zAl
 | int a=>
  obtain⟨t',rfl⟩:=ry;cases x with
  | non=>cases rx; exact SeqAt.EqAt.int_none a t'
  | bl b=>cases rx; exact SeqAt.EqAt.int_bool a t' b
  | int b=>obtain⟨t,rfl⟩:=rx; exact SeqAt.EqAt.int_int a t' b t
  | str b=>obtain⟨t,rfl⟩:=rx; exact SeqAt.EqAt.int_str a t' b t
  | _=>exact absurd (show false=true from fx) zAl
 | str a=>
  obtain⟨t',rfl⟩:=ry;cases x with
  | non=>cases rx; exact SeqAt.EqAt.str_none a t'
  | bl b=>cases rx; exact SeqAt.EqAt.str_bool a t' b
  | int b=>obtain⟨t,rfl⟩:=rx; exact SeqAt.EqAt.str_int a t' b t
  | str b=>obtain⟨t,rfl⟩:=rx; exact SeqAt.EqAt.str_str a t' b t
  | _=>exact absurd (show false=true from fx) zAl
 | _=>exact absurd (show false=true from fy) zAl
def N1 (x:V) (u:Value):Bool:=match u with
 | .none=>Wc .non x
 | .bool b=>Wc (.bl b) x
 | .int i _=>Wc (.int i) x
 | .str z _=>Wc (.str z) x
 | _=>false
theorem DJ {x y:V} {u:Value} (r:RelV y u) (f:Ew y=true):N1 x u=Wc y x:=by
 cases y with
 | non=>cases r; rfl
 | bl b=>cases r; rfl
 | int i=>obtain⟨t,rfl⟩:=r; rfl
 | str z=>obtain⟨t,rfl⟩:=r; rfl
 | _=>exact absurd (show false=true from f) zAl
theorem Mj {x:V}:∀ {xs:List V} {us:List Value},Vals xs us->xs.all Ew=true->us.any (N1 x)=xs.any fun y=>Wc y x
 | _,_,.nil,_=>rfl
 | y::xs,u::us,.cons r t,f=>by
  rw[zCu,zAp] at f;rw[zCv,zCv,DJ r f.1,Mj t f.2]
theorem Jt {A:Around} {s:Shared} {x:V} {v:Value} (rx:RelV x v) (fx:Ew x=true):∀ {xs:List V} {us:List Value},Vals xs us->xs.all Ew=true->∀ u∈us,SeqAt.EqAt A s u v (N1 x u)
 | _,_,.nil,_=>fun u hu=>by cases hu
 | y::xs,u::us,.cons r t,f=>fun u' hu=>by
  rw[zCu,zAp] at f;rcases zAo.mp hu with rfl | hu
  ·rw[DJ r f.1]; exact L9 r rx f.1 fx
  ·exact Jt rx fx t f.2 u' hu
def LK (x:V) (xs:List V):Bool:=xs.any fun y=>Wc y x
def QR (K:zAa) (neg:Bool):R2:=fun x y H Q=>∃ p xs,y = .ref p/\(SqL K H p xs\/SqT K H p xs)/\Ew x=true/\xs.all Ew=true/\Q (.bl (if neg then !LK x xs else LK x xs)) H
theorem Vo:Ko X (compareOp .In) (QR X.K false):=by
 intro pins s σ H x y v u Q I rx ry h;obtain⟨p,xs,rfl,hq,fx,fs,q⟩:=h;cases ry;rcases hq with hq | hq
 ·obtain⟨its,r,pl,hz⟩:=I.list hq
  refine SeqAt.in_listAt (N1 x) pl.isList (fun w hw=>Jt rx fx r fs w (by simpa using hw)) ⟨.bl _,H,I,rfl,?_⟩;rw[show its.toArray.any (N1 x)=its.any (N1 x) by simp,Mj r fs];exact q
 ·obtain⟨its,r,pl,hz⟩:=I.tuple hq
  refine SeqAt.in_tupleAt (N1 x) pl (fun w hw=>Jt rx fx r fs w (by simpa using hw)) ⟨.bl _,H,I,rfl,?_⟩;rw[show its.toArray.any (N1 x)=its.any (N1 x) by simp,Mj r fs];exact q
theorem Xc:Ko X (compareOp .NotIn) (QR X.K true):=by
 intro pins s σ H x y v u Q I rx ry h;obtain⟨p,xs,rfl,hq,fx,fs,q⟩:=h;cases ry;rcases hq with hq | hq
 ·obtain⟨its,r,pl,hz⟩:=I.list hq
  refine SeqAt.notIn_listAt (N1 x) pl.isList (fun w hw=>Jt rx fx r fs w (by simpa using hw)) ⟨.bl _,H,I,rfl,?_⟩;rw[show its.toArray.any (N1 x)=its.any (N1 x) by simp,Mj r fs];exact q
 ·obtain⟨its,r,pl,hz⟩:=I.tuple hq
  refine SeqAt.notIn_tupleAt (N1 x) pl (fun w hw=>Jt rx fx r fs w (by simpa using hw)) ⟨.bl _,H,I,rfl,?_⟩;rw[show its.toArray.any (N1 x)=its.any (N1 x) by simp,Mj r fs];exact q
theorem Xj:Ko X (compareOp .NotIn) (fun x y H Q=>∃ i j,x = .str i/\y = .str j/\Q (.bl (!(!(Builtin.Str.occurrences j i 0 j.length 1).isEmpty))) H):=by
 intro pins s σ H x y v u Q I rx ry h;obtain⟨i,j,rfl,rfl,q⟩:=h;obtain⟨t,rfl⟩:=rx;obtain⟨t',rfl⟩:=ry;exact notIn_str ⟨.bl _,H,I,rfl,q⟩
theorem By:Gf X (.builtin "len") (fun xs H Q=>∃ p ys,xs=[.ref p]/\(SqL X.K H p ys\/SqT X.K H p ys)/\Q (.int ys.length) H):=by
 intro pins s σ H xs us Q I r h;obtain⟨p,ys,rfl,hq,q⟩:=h;obtain⟨u,rfl,rx⟩:=Ji r;cases rx;have hn:=Lh;rcases hq with hq | hq
 ·obtain⟨its,r',pl,hz⟩:=I.list hq
  have hlen:=r'.length;exact Calls.call_len_list pl.isList (by simp only [zAh] <;> lia) ⟨.int ys.length,H,I.tok _,⟨s.toks+1,by rw[zAh,hlen]⟩,q⟩
 ·obtain⟨its,r',pl,hz⟩:=I.tuple hq
  have hlen:=r'.length;exact len_tuple pl (by simp only [zAh] <;> lia) ⟨.int ys.length,H,I.tok _,⟨s.toks+1,by rw[zAh,hlen]⟩,q⟩
theorem Xn:Gf X (.builtin "len") (fun xs H Q=>∃ z,xs=[.str z]/\z.length<=sizeLine/\Q (.int z.length) H):=by
 intro pins s σ H xs us Q I r h;obtain⟨z,rfl,hz,q⟩:=h;obtain⟨u,rfl,t,rfl⟩:=Ji r;have hn:=Lh;exact len_str (by lia) ⟨.int z.length,H,I.tok _,⟨_,rfl⟩,q⟩
theorem De:Gf X (.type "list") (fun xs H Q=>∃ p ys,xs=[.ref p]/\(SqL X.K H p ys\/SqT X.K H p ys)/\∀ l,H l=none->Q (.ref l) (upd H l (.lst ys))):=by
 intro pins s σ H xs us Q I r h;obtain⟨p,ys,rfl,hq,q⟩:=h;obtain⟨u,rfl,rx⟩:=Ji r;cases rx;have fin:∀ (its:List Value),Vals ys its->ys.length<=sizeLine->∀ (h':Heap) (c':Nat),(∀ b o',s.heap.get? b=some o'->h'.get? b=some o') ->
   h'.get? s.heap.objs.size=some { cls:=.type "list",dict:=none,data:=.seq its.toArray c',slots := #[] }->EP X pins σ Q (.ref s.heap.objs.size) { s with heap:=h' }:=fun its r' hz h' c' kp e=>
  ⟨.ref s.heap.objs.size,_,I.laid (t':=s.toks) kp (zAn _) (show ObjOk X.prog X.w _ h' _ (.lst ys) from ⟨hz,its,c',r',e⟩),rfl,q _ (I.hok.fresh (zAn _))⟩
 rcases hq with hq | hq
 ·obtain⟨its,r',pl,hz⟩:=I.list hq
  have hlen:=r'.length;obtain⟨o,ho,hc,n,hd⟩:=pl.isList;exact call_list_seq p (.inl rfl) ho hc hd (fun h' c' kp e=>fin its r' hz h' c' kp e) (by simp only [zAh] <;> lia)
 ·obtain⟨its,r',pl,hz⟩:=I.tuple hq
  have hlen:=r'.length;obtain⟨o,ho,hc,n,hd⟩:=pl;exact call_list_seq p (.inr rfl) ho hc hd (fun h' c' kp e=>fin its r' hz h' c' kp e) (by simp only [zAh] <;> lia)
def QG (K:zAa) (T:String) (x:V) (H:Hp):Prop:=match x with
 | .str _=>T = "str"
 | .int _=>T = "int"
 | .ref p=>(T = "list"/\∃ xs,SqL K H p xs)\/(T = "tuple"/\∃ o,K.lookup p=some o/\o.cls = .type "tuple"/\o.dict=none) \/
   (T = "dict"/\((∃ kvs,H p=some (.dK kvs))\/∃ kvs,H p=some (.dT kvs)))\/(T = "set"/\∃ S n,H p=some (.set S n))
 | _=>False
theorem BI {pins:List (Addr×Obj)} {σ:St} {H:Hp} {s:Shared} {T:String} {x:V} {v:Value} (I:Inv X pins σ H s) (r:RelV x v) (ty:QG X.K T x H) :
  s.TypeIs v T/\∀ a,v = .ref a->∃ ob,s.heap.get? a=some ob/\ob.dict=none:=by
 cases x with
 | str z=>
  obtain⟨t,rfl⟩:=r;cases (show T = "str" from ty);exact⟨typeIs_str s z t,fun _ e=>nomatch e⟩
 | int i=>
  obtain⟨t,rfl⟩:=r;cases (show T = "int" from ty);exact⟨typeIs_int s i t,fun _ e=>nomatch e⟩
 | ref p=>
  cases r
  rcases ty with ⟨rfl,xs,hq⟩ | ⟨rfl,o,hk,hc,hd⟩ | ⟨rfl,hk⟩ | ⟨rfl,S,n,hk⟩
  ·obtain⟨its,_,pl,_⟩:=I.list hq
   refine⟨pl.isList.typeIs,fun a e=>?_⟩;cases e;obtain⟨o,n,e,c,hd,_⟩:=pl;exact⟨o,e,hd⟩
  ·refine⟨⟨o,I.kIn p o hk,hc⟩,fun a e=>?_⟩
   cases e
   exact⟨o,I.kIn _ o hk,hd⟩
  ·have z:∃ o,s.heap.get? p=some o/\o.ExactDict:=by
    rcases hk with ⟨kvs,hk⟩ | ⟨kvs,hk⟩
    ·obtain⟨_,_,_,_,o,_,_,e,ex,_⟩:=I.hok p _ hk
     exact⟨o,e,ex⟩
    ·obtain⟨_,_,_,_,o,_,_,e,ex,_⟩:=I.hok p _ hk
     exact⟨o,e,ex⟩
   obtain⟨o,e,ex⟩:=z;refine⟨⟨o,e,ex.1⟩,fun a e2=>?_⟩;cases e2;exact⟨o,e,ex.2.1⟩
  ·obtain⟨o,_,_,_,e,ex,_⟩:=I.hok p _ hk
   refine⟨⟨o,e,ex.1⟩,fun a e2=>?_⟩;cases e2;exact⟨o,e,ex.2.1⟩
 | _=>exact False.elim ty
def QH (K:zAa) (T:String) (r:V->List V->Hp->VK->Prop) (to:TE):TE:=fun σ H Q=>to σ H fun x H1=>QG K T x H1/\r x [] H1 Q
def QX (K:zAa) (T:String) (r:V->List V->Hp->VK->Prop) (to:TE) (t:TA):TE:=fun σ H Q=>to σ H fun x H1=>QG K T x H1/\t σ H1 fun xs H2=>r x xs H2 Q
variable {o e:Expr} {es:List Expr} {to:TE} {t:TA} {name:Str} {apos cpos:Pos} {T id:String} {r:V->List V->Hp->VK->Prop}
theorem JR (pa:PlainAttrs T) (slot:Slot T name id) (hty:typeOf (.builtin id)=pure (.type "method_descriptor")) (hm:QA X id r) (ho:PE X o to)
  (hbase:attributeBase o name X.env (eval o X.env)=eval o X.env:=by rfl) (hline:(apos.endLine==cpos.line)=true:=by rfl):PE X (.Call (.Attribute o name apos) [] [] cpos) (QH X.K T r to):=by
 intro pins s σ H Q I h;refine wpAny_Call_method0_late hbase hline (Cs (ho pins s σ H _ I h) fun v s1 ⟨x,H1,I1,r1,ty,q1⟩=>?_);obtain⟨h1,h2⟩:=BI I1 r1 ty;exact⟨T,id,pa,slot,hty,h1,h2,Calls.callWith_builtin rfl (PySem.evalArgs_none (hm pins s1 σ H1 x [] v [] Q I1 r1 .nil q1))⟩
theorem Gi (pa:PlainAttrs T) (slot:Slot T name id) (hty:typeOf (.builtin id)=pure (.type "method_descriptor")) (hm:QA X id r) (ho:PE X o to) (ha:PA X (e::es) t)
  (hbase:attributeBase o name X.env (eval o X.env)=eval o X.env:=by rfl)
  (hfew:((backTo cpos (starEach (e::es) X.env)).all (fun x => !x.1)&&(backToKw cpos (keywordEach [] X.env)).all (fun x=>x.1.isSome)
   && decide ((e::es).length+([]:List Keyword).length+(if ([]:List Keyword).isEmpty then 0 else 1)<30))=true:=by rfl)
  (hline:(apos.endLine==cpos.line)=true:=by rfl) (hs:starEach (e::es) X.env=(false,eval e X.env)::starEach es X.env:=by rfl) (hplain:(backTo cpos (starEach es X.env)).any (·.1)=false:=by rfl) :
  PE X (.Call (.Attribute o name apos) (e::es) [] cpos) (QX X.K T r to t):=by
 intro pins s σ H Q I h;refine wpAny_Call_method_late hbase hfew hline rfl (Cs (ho pins s σ H _ I h) fun v s1 ⟨x,H1,I1,r1,ty,q1⟩=>?_);obtain⟨h1,h2⟩:=BI I1 r1 ty;refine⟨T,id,pa,slot,hty,h1,h2,?_⟩;have hA:=ha cpos pins s1 σ H1 _ I1 q1;rw[hs] at hA ⊢;refine Calls.callWith_builtin (by show (false||(backTo cpos (starEach es X.env)).any (·.1))=false; rw[hplain] <;> rfl) (Calls.evalArgs_plain ?_);exact Cs hA fun us s2 ⟨vs,H2,I2,r2,q2⟩=>hm pins s2 σ H2 x vs v us Q I2 r1 r2 q2
/- xs.append(e),list.index on a module's tuple .. are QA facts of 06m -/
end
def OC (X:Cx) (id:String) (r:V->List V->Hp->VK->Prop):Prop:=
 ∀ (pins:List (Addr×Obj)) (s:Shared) (σ:St) (H:Hp) (x:V) (xs:List V) (v:Value) (us:List Value) (Q:VK),Inv X pins σ H s->RelV x v->Vals xs us->r x xs H Q ->
  wpAny (model X.prog X.w) X.A (call (.builtin id) (v::us)) (EP X pins σ Q) X.xe s
theorem Vals.one:∀ {x:V} {us:List Value},Vals [x] us->∃ u,us=[u]/\RelV x u
 | _,_,.cons r .nil=>⟨_,rfl,r⟩
theorem Vals.zero:∀ {us:List Value},Vals [] us->us=[]
 | _,.nil=>rfl
theorem Vals.dropLast {xs:List V} {us:List Value} (h:Vals xs us):Vals xs.dropLast us.dropLast:=by
 induction h with
 | nil=>exact .nil
 | cons r t ih=>
  cases t with
  | nil=>exact .nil
  | cons q t'=>exact .cons r ih
theorem Vals.reverse {xs:List V} {us:List Value} (h:Vals xs us):Vals xs.reverse us.reverse:=by
 induction h with
 | nil=>exact .nil
 | cons r t ih=>rw[List.reverse_cons,List.reverse_cons]; exact Vals.append ih (.cons r .nil)
theorem Vals.rep {xs:List V} {us:List Value} (h:Vals xs us):∀ k:Nat,Vals (zAv k xs).flatten (zAv k us).flatten
 | 0=>.nil
 | k+1=>by
  rw[zBs,zBs,zBy,zBy];exact Vals.append h (Vals.rep h k)
theorem O2 {α:Type} (l:List α):l.eraseIdx (l.length-1)=l.dropLast:=by
 induction l with
 | nil=>rfl
 | cons a r ih=>
  cases r with
  | nil=>rfl
  | cons b r=>
   have e:(a::b::r).length-1=((b::r).length-1)+1:=by
    have h1:(a::b::r).length=r.length+2:=rfl;have h2:(b::r).length=r.length+1:=rfl
    lia
   rw[e,List.eraseIdx_cons_succ,ih]
   all_goals rfl
section
variable {X:Cx} {pins:List (Addr×Obj)} {σ:St} {H:Hp} {s:Shared} {l b:Addr} {xs ys zs:List V}
theorem Inv.lset {its its':List Value} {n:Nat} {f:Array Value->Array Value} {t':Nat} (I:Inv X pins σ H s) (hH:H l=some (.lst xs))
  (e:s.heap.get? l=some { cls:=.type "list",data:=.seq its.toArray n }) (hf:f its.toArray=its'.toArray) (hv:Vals ys its') (hz:ys.length<=sizeLine) :
  Inv X pins σ (upd H l (.lst ys)) { s with heap:=s.heap.update l (Obj.mapSeq f),toks:=t' }:=by
 have q:=PySem.IsL.update e f;rw[hf] at q;refine I.write (x:=l) (e:=l) (by rw[hH]; exact trivial) (.inl rfl) (fun b' u hb hu=>(zBP s.heap (Obj.mapSeq f) (Ne.symm hb)).trans hu) ⟨_,q⟩ ?_;exact⟨hz,its',_,hv,q⟩
theorem Inv.lnew {its:List Value} {t':Nat} (I:Inv X pins σ H s) (hv:Vals ys its) (hz:ys.length<=sizeLine) :
  Inv X pins σ (upd H s.heap.objs.size (.lst ys)) { s with heap:=s.heap.push { cls:=.type "list",data:=.seq its.toArray },toks:=t' }:=
 I.laid (fun _ _ q=>zAe _ q) (zAn _) ⟨hz,its,0,hv,zAt _ rfl⟩
theorem Inv.fresh (I:Inv X pins σ H s):H s.heap.objs.size=none:=I.hok.fresh (zAn _)
theorem Inv.lstM (I:Inv X pins σ H s) (hH:H l=some (.lst xs)):xs.length<=sizeLine/\∃ (its:List Value) (n:Nat),Vals xs its/\xs.length=its.length/\s.heap.get? l=some { cls:=.type "list",data:=.seq its.toArray n }:=by
 obtain⟨z,its,n,r,e⟩:=I.hok l _ hH;exact⟨z,its,n,r,r.length,e⟩
theorem Zi {n:Nat} (h:n<=sizeLine):Builtin.List.listTooLong n=false:=by
 unfold Builtin.List.listTooLong;exact decide_eq_false (by lia)
end
section
variable {X:Cx}
def HW:V->List V->Hp->VK->Prop:=fun x vs H Q=>∃ l xs y,x = .ref l/\vs=[y]/\H l=some (.lst xs)/\xs.length<sizeLine/\Q .non (upd H l (.lst (xs++[y])))
theorem Dm:OC X "list.append" HW:=by
 intro pins s σ H x vs v us Q I rx rv h;obtain⟨l,xs,y,rfl,rfl,hH,hz,q⟩:=h;cases rx;obtain⟨u,rfl,ru⟩:=rv.one;obtain⟨z,its,n,r,hl,e⟩:=I.lstM hH;refine call_meets F.slot_list_append ⟨_,e,rfl⟩ F.entry_list_append (F.args_list_append_2 _ _) (PySem.list_append l its.toArray n u (by rw[zAh]; lia)) ⟨e,?_⟩;refine⟨.non,_,I.lset (its':=its++[u]) hH e (by simp) (r.append (.cons ru .nil)) ?_,rfl,q⟩;rw[zAm,zBv]
 lia
def GW:V->List V->Hp->VK->Prop:=fun x vs H Q=>∃ l b xs zs,x = .ref l/\vs=[.ref b]/\H l=some (.lst xs)/\H b=some (.lst zs)/\xs.length+zs.length<=sizeLine/\Q .non (upd H l (.lst (xs++zs)))
theorem Kk:OC X "list.extend" GW:=by
 intro pins s σ H x vs v us Q I rx rv h;obtain⟨l,b,xs,zs,rfl,rfl,hH,hB,hz,q⟩:=h;cases rx;obtain⟨u,rfl,ru⟩:=rv.one;cases ru;obtain⟨z,its,n,r,hl,e⟩:=I.lstM hH;obtain⟨z2,its2,n2,r2,hl2,e2⟩:=I.lstM hB;have hsz:its.toArray.size+its2.toArray.size<=sizeLine:=by rw[zAh,zAh]; lia
 have hlong:¬ (!its.toArray.isEmpty&&Builtin.List.listTooLong (its.toArray.size+its2.toArray.size))=true:=by
  rw[Zi hsz,zCm];exact zAl
 refine call_meets F.slot_list_extend ⟨_,e,rfl⟩ F.entry_list_extend (F.args_list_extend_2 _ _)
  (AutoSeq1.list_extend_list_list_0 l its.toArray n b its2.toArray n2 hlong (by rw[zAh]; lia) (by lia)) ⟨e,e2,?_⟩
 refine⟨.non,_,I.lset (its':=its++its2) hH e (by simp) (r.append r2) ?_,rfl,q⟩;rw[zAm]
 lia
def PL:V->List V->Hp->VK->Prop:=fun x vs H Q=>∃ l xs y,x = .ref l/\vs=[]/\H l=some (.lst xs)/\xs[xs.length-1]?=some y/\Q y (upd H l (.lst xs.dropLast))
theorem KN:OC X "list.pop" PL:=by
 intro pins s σ H x vs v us Q I rx rv h;obtain⟨l,xs,y,rfl,rfl,hH,hy,q⟩:=h;cases rx;have hus:=rv.zero;subst hus;obtain⟨z,its,n,r,hl,e⟩:=I.lstM hH;obtain⟨u,hu,ru⟩:=r.get hy;have hy':its.toArray[its.toArray.size-1]?=some u:=by
  show its.toArray[its.length-1]?=some u;rw[<- zBf,<- hl];exact hu
 refine call_meets F.slot_list_pop ⟨_,e,rfl⟩ F.entry_list_pop (F.args_list_pop_1 _) (MeetsSeq.list_pop_last l its.toArray n u hy' (by rw[zAh]; lia)) ⟨e,?_⟩;refine⟨y,_,I.lset (its':=its.dropLast) hH e ?_ r.dropLast ?_,ru,q⟩
 ·show its.toArray.eraseIdxIfInBounds (its.toArray.size-1)=its.dropLast.toArray
  rw[zAh,List.eraseIdxIfInBounds_toArray,O2]
 ·rw[List.length_dropLast]
  lia
def NE:R2:=fun x y H Q=>∃ l b xs zs,x = .ref l/\y = .ref b/\H l=some (.lst xs)/\H b=some (.lst zs)/\xs.length+zs.length<=sizeLine/\∀ p,H p=none->Q (.ref p) (upd H p (.lst (xs++zs)))
theorem Hv:Ko X (binaryOp .Add) NE:=by
 intro pins s σ H x y v u Q I rx ry h;obtain⟨l,b,xs,zs,rfl,rfl,hH,hB,hz,q⟩:=h;cases rx;cases ry;obtain⟨z,its,n,r,hl,e⟩:=I.lstM hH;obtain⟨z2,its2,n2,r2,hl2,e2⟩:=I.lstM hB;refine PySem.P.add_list e e2 ?_ (by rw[zAh,zAh]; lia);have ea:its.toArray++its2.toArray=(its++its2).toArray:=by simp
 rw[ea];exact⟨.ref _,_,I.lnew (t':=s.toks) (r.append r2) (by rw[zAm]; lia),rfl,q _ I.fresh⟩
theorem GS {α:Type} (xs:List α) (k:Nat):(zAv k xs).flatten.length=k*xs.length:=by
 induction k with
 | zero=>simp
 | succ k ih=>rw[zBs,zBy,zAm,ih,Nat.succ_mul,Nat.add_comm]
end
section
variable {prog:Program} {w:World} {A:Around} {E:Value->Shared->Prop} {s:Shared}
end
section
variable {X:Cx}
end
end L2
namespace Att
open PySem PySem.W PySem.Calls PyProof.Rows
theorem Pl {P:Params} {h:Heap}:∀ (ns:List Int) (vs:List Value),WellAll P h vs (ns.map WData.int)->IntsAre vs ns:=by
 intro ns
 induction ns with
 | nil=>
  intro vs w;rw[List.map_nil] at w;cases w;exact .nil
 | cons n ns ih=>
  intro vs w;rw[zAN] at w;cases w with
  | cons a b=>
   cases a
   exact .cons _ _ (ih _ b)
theorem Y4 {l:OpenLaw} {n:Nat} (hn:l.most=some n) {P:Params} {h:Heap} {args:List WData} {vals:List Value}
  (hpre:l.row.toRowW.claim.pre args=true) (hwl:WellAll P h vals args) :
  ∃ a vs ns,vals=[Value.ref a]/\args=[WData.list (ns.map WData.int)]/\h.get? a=some { cls:=.type "list",data:=.seq vs.toArray }/\IntsAre vs ns/\ns.length<=n:=by
 have hsh:WShape.hasAll [] args [.list .int]=true:=(pre_splitW hpre).1;have hc:l.pre.holds [] { args:=args }=true:=(pre_splitW hpre).2;obtain⟨d,r,rfl,h1,h2⟩:=hasAllW_cons hsh;obtain rfl:=hasAllW_nil h2;obtain⟨xs,rfl,h3⟩:=hasW_list h1;obtain⟨ns,rfl⟩:=items_int h3;have hlen:ns.length<=n:=by
  unfold OpenLaw.pre at hc;have h4:(WTm.not (.lt (.lit (.int (n:Int))) (.len (.arg 0)))).holds [] { args:=[.list (ns.map .int)] }=true:=by
   have h4:=(holds_andW hc).1;rw[hn] at h4;exact h4
  have h5:=condW_of h4 (w_not (w_lt w_lit (w_len_list (w_arg rfl))));rw[zAb] at h5;refine Nat.le_of_not_lt fun q=>?_;have q':(n:Int)<((ns.length:Nat):Int):=by lia
  first
   | (rw[decide_eq_true q'] at h5; exact absurd h5 (by decide))
   | (simp at h5; lia)
 cases hwl with
 | cons w1 w2=>
  cases w2
  cases w1 with
  | list ho hall=>exact⟨_,_,ns,rfl,rfl,ho,Pl ns _ hall,hlen⟩
theorem AC (l:OpenLaw) (args:List WData):l.row.toRowW.claim.post args (.bool true) args=true:=
 postW_of (r:=l.row.toRowW) (X:=(true==true))
  (show WShape.has [] (.bool true) .bool=true by first | rfl | decide | simp [WShape.has,WShape.arms,WShape.armsAll])
  (show (WTm.eq .res (.lit (.bool true))).value [] { args:=args,res:=some (.bool true),after:=args }=some (.bool (true==true)) from w_eq_bool (w_res rfl) w_lit) rfl
theorem attach_call {l:OpenLaw} {n:Nat} {q:Program} {loose:List Str} {XP:(Str->Option Value)->Heap->Prop} {YP:World->Heap->Prop} {d:DefRec}
  (hn:l.most=some n) (hdf:d.params.defaults=[])
  (call:∀ (w:World) (s₀ s₁ : Shared) (mg mb:Str->Option Value) (fa:Addr) (o:Obj) (pm cd doc:Value) (a:Addr) (vs:List Value) (ns:List Int),
   Ground q loose [] XP w s₀ mg mb s₁.heap->YP w s₁.heap ->
   s₁.heap.get? fa=some o->o.data = .func (docDef d.name d.params d.body d.scope pm cd doc)->s₁.heap.CodeRec cd d.name->mg d.name=some (.ref fa) ->
   s₁.heap.get? a=some { cls:=.type "list",data:=.seq vs.toArray }->IntsAre vs ns->ns.length<=n->s₁.gens = #[] ->
   codeAny (model l.prog w) callerA (.call (.ref fa) ⟨[.ref a],[]⟩) (fun r s'=>r = .ok (.ret (.bool true))/\OldK s₁.heap s'.heap/\s'.os=s₁.os/\AllBare s'.gens) s₁) :
  WalkO q loose XP YP l.row.toRowW d [] (fun f vs=>PySem.call f vs):=by
 intro w s₀ s₁ mg mb G Y fa o pm cd doc dV kV ho hd hcd hD hmg hg args vals as hpre hlay hrd hwl hlo;obtain rfl:dV = .none:=Dflts.none hD hdf;obtain rfl:kV = .none:=Dflts.noKw hD;obtain⟨a,vs,ns,rfl,rfl,hobj,hints,hlen⟩:=Y4 hn hpre hwl;refine enter_call (codeAny_mono (call w s₀ s₁ mg mb fa o pm cd doc a vs ns G Y ho (fd_plain hd) hcd hmg hobj hints hlen hg) fun r s' hq=>?_);obtain⟨rfl,h2,h3,h4⟩:=hq;exact⟨.inl ⟨.bool true,.bool true,[],rfl,fun _=>rfl,.bool true,AC l _,fun _=>⟨List.Pairwise.nil,fun _ hm=>(nomatch hm)⟩⟩,h2,h3,h4⟩
section
variable {prog:Program} {w:World} {A:Around} {E:Value->Shared->Prop} {s:Shared} {K:Frag}
end
end Att
namespace L2
open PySem PySem.Spec PyProof.Rows
theorem Vw:∀ {vs:List Value} {ns:List Int},IntsAre vs ns->Vals (ns.map V.int) vs
 | _,_,.nil=>.nil
 | _,_,.cons n t h=>.cons ⟨t,rfl⟩ (Vw h)
def KG (H:Hp):Prop:=∀ b,H b=none\/∃ o xs,H b=some (.frz o (.lst xs))
theorem CW {P:Program} {w:World} {K:zAa} {mg mb:Str->Option Value} {CX:AB} {k:Nat} {fa a:Addr} {fd:zCC} {x:Str} {sp:Sp} {s₁ : Shared} {vs:List Value} {ns:List Int}
  (KX:K.In s₁.heap) (hns:s₁.heap.Ns zCD mg) (hb:s₁.heap.Ns builtinsNs mb) (hbb:∀ x:Str,x ≠ "__name__" -> mb x=zCB x) (hlim:s₁.heap.NoLimit) (hg:s₁.gens = #[])
  (ha:s₁.heap.get? a=some { cls:=.type "list",data:=.seq vs.toArray }) (hi:IntsAre vs ns) (hl:ns.length<=sizeLine) (hr:Room k callerA)
  (F:∀ base:Heap,K.In base->base.Ns zCD mg->FnOk P w K mg base CX k fa fd [x] sp) (hbind:∀ (s:Shared) (u:Value),BindsTo s fd ⟨[u],[]⟩ [(x,u)])
  (hsp:∀ H:Hp,KG H->SqL K H a (ns.map V.int)->sp [.ref a] H (fun v _=>v = .bl true) fun _ _ _=>False)
  (hCX:∀ H e s',CX [] H s₁ (fun _ _ _=>False) e s'->False) :
  codeAny (model P w) callerA (.call (.ref fa) ⟨[.ref a],[]⟩) (fun r s'=>r = .ok (.ret (.bool true))/\OldK s₁.heap s'.heap/\s'.os=s₁.os/\AllBare s'.gens) s₁ := by
 have rv:=Vw hi;have lenV:=hi.length;have core:∀ H:Hp,KG H->SqL K H a (ns.map V.int)->HOk P w H s₁.heap->(∀ b,H b≠none->b=a)->(H a≠none->K.lookup a=none) ->
   codeAny (model P w) callerA (.call (.ref fa) ⟨[.ref a],[]⟩) (fun r s'=>r = .ok (.ret (.bool true))/\OldK s₁.heap s'.heap/\s'.os=s₁.os/\AllBare s'.gens) s₁ := by
  intro H hO hS hok hA hK;have base_of:∀ {b:Addr} {o:Obj},s₁.heap.get? b=some o->H b=none->(Yb s₁.heap H).get? b=some o:=fun e n=>FT e n;have noA:∀ {b:Addr} {o:Obj} {es:Array DictEntry} {ep:Nat},s₁.heap.get? b=some o->o.data = .dict es ep->H b=none:=fun {b o es ep} e d=>by
   cases q:H b with
   | none=>rfl
   | some u=>
    have e':b=a:=hA b (by rw[q]; simp);subst e';rw[ha] at e; cases e;have d':Data.seq vs.toArray _=Data.dict es ep:=d;cases d'
  have nsK:∀ {b:Addr} {m:Str->Option Value},s₁.heap.Ns b m->(Yb s₁.heap H).Ns b m:=fun {b m} ⟨o,es,ep,e,d,r⟩=>⟨o,es,ep,base_of e (noA e d),d,r⟩;have hKb:K.In (Yb s₁.heap H):=fun b o e=>base_of (KX b o e) (by
   cases q:H b with
   | none=>rfl
   | some u=>
    have e':b=a:=hA b (by rw[q]; simp);subst e';rw[hK (by rw[q]; simp)] at e; cases e)
  have hM:Mod K mg (Yb s₁.heap H):=⟨hKb,nsK hns,⟨mb,nsK hb,hbb⟩,let ⟨mc,h1,h2⟩:=hlim; ⟨mc,nsK h1,h2⟩⟩;have e0:Env0 P w K mg (Yb s₁.heap H) callerA [] s₁ H:=⟨rfl,hM,fun b o e=>HX e,Nat.le_of_eq (Y7 _ _),trivial,fun b hb=>absurd (show b∈([]:List Addr) from hb) (by simp),hok,.of_eq hg⟩;refine codeAny_mono ((F _ hKb (nsK hns)).run callerA [] s₁ H ⟨[.ref a],[]⟩ [.ref a] [.ref a] _ _ hr e0 (hbind s₁ (.ref a)) (.cons rfl .nil) (hsp H hO hS)) fun r s' h=>?_;cases r with
  | error e=>exact (hCX H e s' h).elim
  | ok fl=>
   cases fl with
   | next=>exact False.elim h
   | brk=>exact False.elim h
   | cont=>exact False.elim h
   | ret u=>
    obtain⟨v,H',os,bare,un,hok',r',q⟩:=h;have q':v = .bl true:=q;subst q';obtain rfl:u=Value.bool true:=r';refine⟨rfl,OldK.of_keep fun b o e=>?_,os,bare⟩;cases q:H b with
    | none=>exact un.keep b o e q (by intro z; exact absurd (show b∈([]:List Addr) from z) (by simp)) (by simp)
    | some u=>
     rcases hO b with z | ⟨ob,xs,z⟩
     ·rw[q] at z; cases z
     ·have z2:=un.frzs b ob _ z
      obtain⟨e1,_⟩:=hok b _ z;obtain⟨e2,_⟩:=hok' b _ z2;rw[e] at e1; cases e1;exact e2
 cases hk:K.lookup a with
 | some o=>
  have e:=KX a o hk;rw[ha] at e;cases e;refine core (fun _=>none) (fun _=>.inl rfl) (.inr ⟨_,vs.toArray,_,hk,rfl,rfl,rfl,by rw[zAh,lenV]; exact hl,by simpa using rv⟩) (fun b u z=>by have z':(none:Option HO)=some u:=z; cases z') (fun b z=>absurd rfl z) fun z=>absurd rfl z
 | none=>
  refine core (fun b=>if b=a then some (.frz { cls:=.type "list",data:=.seq vs.toArray } (.lst (ns.map V.int))) else none) (fun b=>?_) (.inl (.inr ⟨{ cls:=.type "list",data:=.seq vs.toArray },if_pos rfl⟩)) (fun b u z=>?_) (fun b z=>?_) fun _=>hk
  ·by_cases hb:b=a
   ·exact .inr ⟨_,_,if_pos hb⟩
   ·exact .inl (if_neg hb)
  ·by_cases hb:b=a
   ·have z':=(if_pos hb).symm.trans z
    cases z'
    subst hb;exact⟨ha,by rw[zAb]; exact hl,vs,_,rv,ha⟩
   ·have z':=(if_neg hb).symm.trans z
    cases z'
  ·by_cases hb:b=a
   ·exact hb
   ·exact absurd (if_neg hb) z
theorem walk_of {l:PySem.W.OpenLaw} {n k:Nat} {q:Program} {loose:List Str} {XP:(Str->Option Value)->Heap->Prop} {YP:World->Heap->Prop} {d:DefRec} {K:Params->zAa} {CX:World->AB} {sp:World->Sp} {x:Str}
  (hn:l.most=some n) (hn2:n<=sizeLine) (hdf:d.params.defaults=[]) (hr:Room k callerA)
  (hY:∀ (w:World) (h:Heap),YP w h->(K w.params).In h)
  (F:∀ (w:World) (mg:Str->Option Value) (fa:Addr) (h:Heap),(K w.params).In h->h.Ns zCD mg->mg d.name=some (.ref fa) ->
   ∃ fd:zCC,(∀ (s:Shared) (u:Value),BindsTo s fd ⟨[u],[]⟩ [(x,u)]) /\
    ∀ base:Heap,(K w.params).In base->base.Ns zCD mg->FnOk l.prog w (K w.params) mg base (CX w) k fa fd [x] (sp w))
  (hsp:∀ (w:World) (H:Hp) (a:Addr) (ns:List Int),ns.length<=n->KG H->SqL (K w.params) H a (ns.map V.int)->sp w [.ref a] H (fun v _=>v = .bl true) fun _ _ _=>False)
  (hCX:∀ (w:World) (H:Hp) (s:Shared) (e:Value) (s':Shared),CX w [] H s (fun _ _ _=>False) e s'->False) :
  PySem.W.WalkO q loose XP YP l.row.toRowW d [] (fun f vs=>PySem.call f vs):=by
 refine Att.attach_call hn hdf fun w s₀ s₁ mg mb fa o pm cd doc a vs ns G Y ho hd hcd hmg hobj hints hlen hg=>?_;have KX:=hY w _ Y;obtain⟨fd,hb,hF⟩:=F w mg fa _ KX G.T.g hmg;exact CW KX G.T.g G.T.b G.T.builtins G.T.nolimit hg hobj hints (zAG hlen hn2) hr hF hb (fun H hO hS=>hsp w H a ns hlen hO hS) fun H e s'=>hCX w H s₁ e s'
end L2
/- THE LAST THEOREM (shape; LID,My.* are yours):
   My.Adr: a structure of the addresses that your layer names (classes,functions); My.Txt K t: a structure (Prop) of the equations over K;
   My.txt_mk:{K} {implicit addresses ..} (e1:nsIn K zCD "law" = some (some (.ref f))) (e2:K.lookup f=some ⟨oc,od,.func (fnOf "law" "law" params body scope dV kV doc pm an cdv ct),sl⟩) (e3:codeIn K cdv "law" = true) .. : ∃ t,My.Txt K t
set_option tactic.hygienic true in
theorem PySem.Challenge.cw_LID_holds : PySem.Challenge.rw_LID.Holds := by
 w_on; o_law; k_head; (case hw=>w_witness2)
 k_fill
 refine L2.walk_of (l:=PySem.Challenge.rw_LID) (n:=63) (k:=40) (x := "script") (CX:=fun w=>..) (sp:=fun _=>My.sp_law) rfl (by decide) rfl ⟨rfl,by decide,by decide⟩ (fun w h Y=>PySem.W.kIn_of Y) ?F ?S ?C
 case F=>
  intro w mg fa h KX G hmg;have T:∃ t,My.Txt (L2.KOf KX) t:=by
   dsimp only [L2.KOf]                          -- K must stand as «<heap const> w.params» for k_is
   refine' My.txt_mk ?e1 ?e2 ?e3 ..
   (case e1=>PySem.W.k_is)                    -- in the order: a name -> its address -> its object -> its parts
   (case e2=>PySem.W.k_is)
   ..
  obtain⟨t,T⟩:=T;have e0:=hmg.symm.trans (zAz KX G T.law);cases e0                                       -- fa is the law's own address;exact⟨_,fun s u=>.of_eq rfl,fun base kb nb=>My.law_fn T kb nb⟩     -- if «.of_eq rfl» comes too early: refine' ⟨_,?b,fun base kb nb=>My.law_fn T kb nb⟩; exact fun s u=>.of_eq rfl
 case S=>exact fun w H a ns hl hO hS=>..
 case C=>exact ..
(the tactic k_is has no namespace: write k_is) -/
namespace L2
open PySem PySem.Spec PyProof.Rows
def Bt (s:Stmt) (j:Nat):Stmt:=match s with
 | .ClassDef _ _ _ body _ _ _ _ _ _ _=>body.getD j (.Pass ⟨0,0,0,0⟩)
 | _=>.Pass ⟨0,0,0,0⟩
def Di (s:Stmt):Arguments:=match s with
 | .FunctionDef _ a _ _ _ _ _ _ _ _=>a
 | _=>{ posonlyargs:=[],args:=[],vararg:=none,kwonlyargs:=[],kw_defaults:=[],kwarg:=none,defaults:=[] }
def Cz (s:Stmt):List Stmt:=match s with
 | .FunctionDef _ _ b _ _ _ _ _ _ _=>b
 | _=>[]
def As (s:Stmt):Scope:=match s with
 | .FunctionDef _ _ _ _ _ _ sc _ _ _=>sc
 | _=>{ kind:=.function,names:=[],isGenerator:=false,isCoroutine:=false }
abbrev Cu:AB:=fun _ _ _ _ _ _=>False
abbrev E0:XK:=fun _ _ _=>False
theorem Vj {X:Cx}:Lf Cu X E0:=fun _ _ _ _ _ _ _ h=>h.elim
structure Fun (K:zAa) (x qual:Str) (st:Stmt) (f:Addr) (fd:zCC):Prop where
 ex:∃ (oc:Value) (od:Option Addr) (kV doc pm:Value) (an:Option Addr) (cdv ct:Value) (osl:Array (Option Value)),
  fd=zAS x qual (Di st) (Cz st) (As st) .none kV doc pm an cdv ct/\K.lookup f=some ⟨oc,od,.func fd,osl⟩/\zBq K cdv qual=true
 kp:zAP K (.ref f)=true
section
variable {P:Program} {w:World} {K:zAa} {mg:Str->Option Value} {base:Heap}
theorem Fun.ok {x qual:Str} {st:Stmt} {f:Addr} {fd:zCC} {N ps:List Str} {k:Nat} {sp:Sp} (F:Fun K x qual st f fd) (S:Bb N ps (As st)) (len:∀ vs H Q E,sp vs H Q E->vs.length=ps.length)
  (hbody:∀ (cdv:Value) (A:Around) (outer:List Env) (s:Shared) (H:Hp) (vs:List V) (Q:VK) (E:XK),Room k (A.deeper (envOfC qual (As st) s.heap.objs.size f cdv))->sp vs H Q E ->
   ∃ t,PSs (F4 Cu P w K mg base N qual (As st) f cdv A outer s H E).nox (Cz st) t/\t { nx:=fun _ H'=>Q .non H',rt:=Q } (Mn N vs) H):FnOk P w K mg base Cu (k+1) f fd ps sp:=by
 obtain⟨oc,od,kV,doc,pm,an,cdv,ct,osl,rfl,lk,hcd⟩:=F.ex;refine IA lk hcd S len fun A outer s H vs Q E hr hsp=>?_;obtain⟨t,h,q⟩:=hbody cdv A outer s H vs Q E hr hsp;exact⟨t,h.nox,q⟩
theorem Fun.binds {x qual:Str} {st:Stmt} {f:Addr} {fd:zCC} {ps:List Str} (F:Fun K x qual st f fd)
  (h:∀ (kV doc pm:Value) (an:Option Addr) (cdv ct:Value) (us:List Value),us.length=ps.length->bindArgs (zAS x qual (Di st) (Cz st) (As st) .none kV doc pm an cdv ct) ⟨us,[]⟩=pure (ps.zip us)):Binds K fd ps []:=by
 obtain⟨oc,od,kV,doc,pm,an,cdv,ct,osl,rfl,lk,hcd⟩:=F.ex;exact .all (h kV doc pm an cdv ct)
theorem L7 {x qual:Str} {st:Stmt} {f:Addr} {oc:Value} {od an:Option Addr} {osl:Array (Option Value)} {kV doc pm cdv ct:Value} (l:K.lookup f=some ⟨oc,od,.func (zAS x qual (Di st) (Cz st) (As st) .none kV doc pm an cdv ct),osl⟩)
  (c:zBq K cdv qual=true) (k:zAP K (.ref f)=true):Fun K x qual st f (zAS x qual (Di st) (Cz st) (As st) .none kV doc pm an cdv ct):=⟨⟨oc,od,kV,doc,pm,an,cdv,ct,osl,rfl,l,c⟩,k⟩
end
theorem BD {A:Around} {k:Nat} (hr:Room k A):A.units+1<cLine:=zCk (Nat.add_le_add_left (by decide:1<=64) _) hr.units
theorem AO {n:Nat} (h:n<=1000):n<sizeLine:=zCk h (by decide)
section
variable {X:Cx}
theorem pv (i:Nat) {x:Str} {pos:Pos} (hN:X.N[i]?=some x:=by rfl) (hv:OX X.env.scope x:=by first | exact Or.inl rfl | exact Or.inr (Or.inl rfl) | exact Or.inr (Or.inr rfl)) (hd:(x==("__debug__" : Str))=false:=by decide)
  (hcd:(x==("__classdict__" : Str))=false:=by decide):PE X (.Name x pos) (NI i):=KC hN hv hd hcd
end
theorem Dy {A B:Prop} (h:B):if false=true then A else B:=by
 rw[if_neg zAl];exact h
theorem Po {A B:Prop} (h:A):if true=true then A else B:=by
 rw[if_pos rfl];exact h
theorem Su {c A B:Prop} [Decidable c] (h1:c->A) (h2:¬ c->B):if c then A else B:=by
 by_cases h:c
 ·rw[if_pos h]
  exact h1 h
 ·rw[if_neg h]
  exact h2 h
def Same (H H':Hp):Prop:=∀ b o,H b=some o->H' b=some o
theorem Same.refl (H:Hp):Same H H:=fun _ _ h=>h
theorem Same.trans {H H1 H2:Hp} (a:Same H H1) (b:Same H1 H2):Same H H2:=fun c o h=>b c o (a c o h)
theorem Same.free {H H':Hp} (e:Same H H') {l:Addr} (h:H' l=Option.none):H l=Option.none:=by
 cases q:H l with
 | none=>rfl
 | some o=>
  rw[e l o q] at h;cases h
theorem Same.seq {K:zAa} {H H':Hp} {a:Addr} {xs:List V} (e:Same H H') (h:SqL K H a xs):SqL K H' a xs:=by
 rcases h with (h | ⟨o,h⟩) | h
 ·exact .inl (.inl (e _ _ h))
 ·exact .inl (.inr ⟨o,e _ _ h⟩)
 ·exact .inr h
section
variable {κ:Type} [DecidableEq κ]
def Eu (kvs:List (κ×V)) (k:κ):Option V:=(kvs.find? fun kv=>decide (kv.1=k)).map (·.2)
def Hb (kvs:List (κ×V)) (k:κ) (v:V):List (κ×V):=
 if (kvs.any fun kv=>decide (kv.1=k))=true then kvs.map (fun kv=>if kv.1=k then (kv.1,v) else kv) else kvs++[(k,v)]
theorem Du {p:κ×V} {r:List (κ×V)} {k:κ} (e:p.1=k):Eu (p::r) k=some p.2:=by simp [Eu,zBK,e]
theorem Dx {p:κ×V} {r:List (κ×V)} {k:κ} (e:¬ p.1=k):Eu (p::r) k=Eu r k:=by simp [Eu,zBK,e]
theorem Mu (k:κ):∀ kvs:List (κ×V),(kvs.any fun kv=>decide (kv.1=k))=(Eu kvs k).isSome
 | []=>rfl
 | p::r=>by
  rw[zCv];by_cases e:p.1=k
  ·simp only [Du e,decide_eq_true e,Bool.true_or,Option.isSome_some]
  ·rw[Dx e,decide_eq_false e,Bool.false_or]; exact Mu k r
theorem A6 (k j:κ) (y:V):∀ kvs:List (κ×V),Eu (kvs.map fun kv=>if kv.1=k then (kv.1,y) else kv) j=(Eu kvs j).map fun x=>if j=k then y else x
 | []=>rfl
 | p::r=>by
  have ih:=A6 k j y r;rw[zAN];by_cases h:p.1=k
  ·rw[if_pos h]
   by_cases e:p.1=j
   ·rw[Du (p:=(p.1,y)) e,Du e,zCi,if_pos (e.symm.trans h)]
   ·rw[Dx (p:=(p.1,y)) e,Dx e,ih]
  ·rw[if_neg h]
   by_cases e:p.1=j
   ·rw[Du (p:=p) e,Du e,zCi,if_neg (fun z=>h (e.trans z))]
   ·rw[Dx (p:=p) e,Dx e,ih]
theorem Vx (k j:κ) (y:V):∀ kvs:List (κ×V),Eu kvs k=none->Eu (kvs++[(k,y)]) j=if j=k then some y else Eu kvs j
 | [],_=>by
  by_cases e:k=j
  ·rw[if_pos e.symm]; exact Du (p:=(k,y)) e
  ·rw[if_neg (fun z=>e z.symm)]; exact Dx (p:=(k,y)) e
 | p::r,hn=>by
  rw[List.cons_append];have hk:¬ p.1=k:=fun z=>by rw[Du z] at hn; cases hn
  rw[Dx hk] at hn;have ih:=Vx k j y r hn;by_cases e:p.1=j
  ·rw[Du e,Du e,if_neg (fun z=>hk (e.trans z))]
  ·rw[Dx e,Dx e,ih]
theorem C0 (kvs:List (κ×V)) (k j:κ) (y:V):Eu (Hb kvs k y) j=if j=k then some y else Eu kvs j:=by
 unfold Hb;by_cases a:(kvs.any fun kv=>decide (kv.1=k))=true
 ·rw[if_pos a,A6]
  rw[Mu] at a;by_cases e:j=k
  ·obtain⟨x,hx⟩:=Option.isSome_iff_exists.mp a
   rw[if_pos e,e,hx,zCi,if_pos rfl]
  ·rw[if_neg e]
   cases Eu kvs j with
   | none=>rfl
   | some x=>rw[zCi,if_neg e]
 ·rw[if_neg a]
  refine Vx k j y kvs ?_;rw[Mu] at a;cases q:Eu kvs k with
  | none=>rfl
  | some x=>rw[q] at a; exact (a rfl).elim
theorem Jp (kvs:List (κ×V)) (k:κ) (v:V):(Hb kvs k v).length<=kvs.length+1:=by
 unfold Hb
 split
 ·rw[zAb]; lia
 ·rw[zAm,zAf,zBL]; lia
theorem RelO.isSome_eq {o:Option V} {u:Option Value} (r:RelO o u):o.isSome=u.isSome:=by
 cases o with
 | none=>cases u with
  | none=>rfl
  | some _=>exact (show False from r).elim
 | some _=>cases u with
  | none=>exact (show False from r).elim
  | some _=>rfl
theorem RelO.getD {o:Option V} {u:Option Value} {d:V} {d':Value} (r:RelO o u) (rd:RelV d d'):RelV (o.getD d) (u.getD d'):=by
 cases o with
 | none=>cases u with
  | none=>exact rd
  | some _=>exact (show False from r).elim
 | some _=>cases u with
  | none=>exact (show False from r).elim
  | some _=>exact r
theorem KV.val {kvs:List (κ×V)} {vs:List (κ×Value)} (r:KV kvs vs) (k:κ):RelO (Eu kvs k) (valueAt vs k):=by
 unfold KV at r
 induction r with
 | nil=>exact True.intro
 | @cons p q ps qs h t ih=>
  obtain⟨h1,h2⟩:=h;by_cases e:p.1=k
  ·have e':q.1=k:=h1.symm.trans e
   have b:valueAt (q::qs) k=some q.2:=by simp [valueAt,zBK,e']
   rw[Du e,b]; exact h2
  ·have e':¬ q.1=k:=fun z=>e (h1.trans z)
   have b:valueAt (q::qs) k=valueAt qs k:=by simp [valueAt,zBK,e']
   rw[Dx e,b]; exact ih
theorem KV.any {kvs:List (κ×V)} {vs:List (κ×Value)} (r:KV kvs vs) (k:κ):(kvs.any fun kv=>decide (kv.1=k))=vs.any fun kv=>decide (kv.1=k):=by
 unfold KV at r
 induction r with
 | nil=>rfl
 | cons h t ih=>rw[zCv,zCv,ih,h.1]
theorem KV.repl {kvs:List (κ×V)} {vs:List (κ×Value)} (r:KV kvs vs) (k:κ) {y:V} {u:Value} (ry:RelV y u) :
  KV (kvs.map fun kv=>if kv.1=k then (kv.1,y) else kv) (vs.map fun kv=>if kv.1=k then (kv.1,u) else kv):=by
 unfold KV at r ⊢
 induction r with
 | nil=>exact .nil
 | @cons p q ps qs h t ih=>
  rw[zAN,zAN];refine .cons ?_ ih;obtain⟨h1,h2⟩:=h;by_cases e:p.1=k
  ·rw[if_pos e,if_pos (h1.symm.trans e)]; exact⟨h1,ry⟩
  ·rw[if_neg e,if_neg (fun z=>e (h1.trans z))]; exact⟨h1,h2⟩
theorem KV.put {kvs:List (κ×V)} {vs:List (κ×Value)} (r:KV kvs vs) (k:κ) {y:V} {u:Value} (ry:RelV y u):KV (Hb kvs k y) (stored vs k u):=by
 unfold Hb stored;rw[r.any k];by_cases e:(vs.any fun kv=>decide (kv.1=k))=true
 ·rw[if_pos e,if_pos e]; exact r.repl k ry
 ·rw[if_neg e,if_neg e]; exact Paired.snoc r ⟨rfl,ry⟩
theorem KV.length {kvs:List (κ×V)} {vs:List (κ×Value)} (r:KV kvs vs):kvs.length=vs.length:=Paired.length r
end
theorem FI {P:Program} {w:World} {k:Dt} {u:Value} (r:RelV (kV k) u):(Dl P w).is k u=true:=by
 cases k with
 | inl i=>obtain⟨t,e⟩:=(show ∃ t,u=Value.int i t from r); subst e; exact Zu P w i t
 | inr x=>obtain⟨t,e⟩:=(show ∃ t,u=Value.str x t from r); subst e; exact Zo P w x t
theorem Wf {P:Program} {w:World}:∀ {ks:List Dt} {us:List Value},Vals (ks.map kV) us->ItemsAre (Dl P w) ks us
 | [],_,r=>by rw[List.map_nil] at r; cases r; exact .nil
 | k::ks,_,r=>by
  rw[zAN] at r;cases r with
  | cons h t=>exact .cons (FI h) (Wf t)
abbrev KT (H:Hp):List (List Dt×V)->List (List Dt×Addr×Value)->Prop:=Paired fun p q=>p.1=q.1/\H q.2.1=some (.tup (p.1.map kV))/\RelV p.2 q.2.2
theorem KT.val {H:Hp} {kvs:List (List Dt×V)} {xs:List (List Dt×Addr×Value)} (r:KT H kvs xs) (k:List Dt):RelO (Eu kvs k) ((atKey xs k).map (·.2)):=by
 induction r with
 | nil=>exact True.intro
 | @cons p q ps qs h t ih=>
  obtain⟨h1,_,h2⟩:=h;by_cases e:p.1=k
  ·have e':q.1=k:=h1.symm.trans e
   have b:atKey (q::qs) k=some q.2:=by simp [atKey,zBK,e']
   rw[Du e,b]; exact h2
  ·have e':¬ q.1=k:=fun z=>e (h1.trans z)
   have b:atKey (q::qs) k=atKey qs k:=by simp [atKey,zBK,e']
   rw[Dx e,b]; exact ih
theorem KT.repl {H:Hp} {kvs:List (List Dt×V)} {xs:List (List Dt×Addr×Value)} (r:KT H kvs xs) (k:List Dt) {y:V} {u:Value} (ry:RelV y u) :
  KT H (kvs.map fun kv=>if kv.1=k then (kv.1,y) else kv) (xs.map (putAt k u)):=by
 induction r with
 | nil=>exact .nil
 | @cons p q ps qs h t ih=>
  rw[zAN,zAN];refine .cons ?_ ih;obtain⟨h1,h2,h3⟩:=h;unfold putAt;by_cases e:p.1=k
  ·rw[if_pos e,if_pos (h1.symm.trans e)]; exact⟨h1,h2,ry⟩
  ·rw[if_neg e,if_neg (fun z=>e (h1.trans z))]; exact⟨h1,h2,h3⟩
theorem KT.put {H:Hp} {kvs:List (List Dt×V)} {xs:List (List Dt×Addr×Value)} (r:KT H kvs xs) (k:List Dt) {b:Addr} {y:V} {u:Value} (hb:H b=some (.tup (k.map kV))) (ry:RelV y u) :
  KT H (Hb kvs k y) (storedH xs k b u):=by
 have e:(kvs.any fun kv=>decide (kv.1=k))=(atKey xs k).isSome:=by
  rw[Mu,(r.val k).isSome_eq,Option.isSome_map]
 unfold Hb storedH;rw[e];by_cases q:(atKey xs k).isSome=true
 ·rw[if_pos q,if_pos q]; exact r.repl k ry
 ·rw[if_neg q,if_neg q]; exact Paired.snoc r ⟨rfl,hb,ry⟩
theorem KT.keeps {H H':Hp} {kvs:List (List Dt×V)} {xs:List (List Dt×Addr×Value)} (r:KT H kvs xs) (ht:∀ b ys,H b=some (.tup ys)->H' b=some (.tup ys)):KT H' kvs xs:=
 Paired.mapP r fun _ _ z=>⟨z.1,ht _ _ z.2.1,z.2.2⟩
section
variable {P:Program} {w:World} {H:Hp} {h:Heap} {a:Addr}
theorem IB {u:HO} (ok:HOk P w H h) (e:Rd H a u):ObjOk P w H h a u:=e.ok ok
theorem CS {kvs:List (Dt×V)} (ok:HOk P w H h) (e:Rd H a (.dK kvs)):kvs.length<=sizeLine/\(a==sysModules)=false/\∃ vs,KV kvs vs/\h.DictOf (Dl P w) a vs:=
 show ObjOk P w H h a (.dK kvs) from IB ok e
theorem LX {kvs:List (Dt×V)} (ok:HOk P w H h) (e:H a=some (.dK kvs)):kvs.length<=sizeLine/\(a==sysModules)=false/\∃ vs,KV kvs vs/\h.DictOf (Dl P w) a vs:=CS ok (.inl e)
theorem N9 {ks:List Dt} (ok:HOk P w H h) (e:H a=some (.tup (ks.map kV))):(tupleKind (Dl P w)).is h ks a:=by
 obtain⟨_,its,r,o,h1,h2,n,h3⟩:=(show ObjOk P w H h a (.tup (ks.map kV)) from ok a _ e);exact⟨o,its.toArray,n,h1,h2,h3,by simpa using Wf r⟩
theorem CF {kvs:List (List Dt×V)} (ok:HOk P w H h) (e:Rd H a (.dT kvs)):kvs.length<=sizeLine/\(a==sysModules)=false /\
  ∃ xs,KT H kvs xs/\h.DictOfH (tupleKind (Dl P w)) a xs:=by
 obtain⟨z,y,xs,r,o,es,ep,h1,h2,h3,h4,h5⟩:=(show ObjOk P w H h a (.dT kvs) from IB ok e);refine⟨z,y,xs,r,o,es,ep,h1,h2,h3,h4,fun x hx=>?_,h5⟩;have all:∀ {l:List (List Dt×V)} {m:List (List Dt×Addr×Value)},KT H l m->∀ x∈m,(tupleKind (Dl P w)).is h x.1 x.2.1:=by
  intro l m q
  induction q with
  | nil=>intro x hx; exact nomatch hx
  | @cons p q ps qs hq t ih=>
   intro x hx;rcases zAo.mp hx with e | hx
   ·subst e
    exact N9 ok (by rw[<- hq.1]; exact hq.2.1)
   ·exact ih x hx
 exact all r x hx
theorem MK {kvs:List (List Dt×V)} (ok:HOk P w H h) (e:H a=some (.dT kvs)):kvs.length<=sizeLine/\(a==sysModules)=false /\
  ∃ xs,KT H kvs xs/\h.DictOfH (tupleKind (Dl P w)) a xs:=CF ok (.inl e)
end
def DGet (H:Hp) (a:Addr) (y:V) (r:Option V):Prop:=
 (∃ kvs k,Rd H a (.dK kvs)/\y=kV k/\r=Eu kvs k)\/∃ kvs k b,Rd H a (.dT kvs)/\y = .ref b/\H b=some (.tup (k.map kV))/\r=Eu kvs k
def DPut (H:Hp) (a:Addr) (y v:V) (H':Hp):Prop:=
 (∃ kvs k,H a=some (.dK kvs)/\y=kV k/\kvs.length<sizeLine/\H'=upd H a (.dK (Hb kvs k v))) \/
 ∃ kvs k b,H a=some (.dT kvs)/\y = .ref b/\H b=some (.tup (k.map kV))/\kvs.length<sizeLine/\H'=upd H a (.dT (Hb kvs k v))
theorem DGet.t {H:Hp} {a b:Addr} {kvs:List (List Dt×V)} {k:List Dt} (e:H a=some (.dT kvs)) (eb:H b=some (.tup (k.map kV))):DGet H a (.ref b) (Eu kvs k):=.inr ⟨kvs,k,b,.inl e,rfl,eb,rfl⟩
theorem DPut.t {H:Hp} {a b:Addr} {kvs:List (List Dt×V)} {k:List Dt} {v:V} (e:H a=some (.dT kvs)) (eb:H b=some (.tup (k.map kV))) (hl:kvs.length<sizeLine) :
  DPut H a (.ref b) v (upd H a (.dT (Hb kvs k v))):=.inr ⟨kvs,k,b,e,rfl,eb,hl,rfl⟩
section
variable {X:Cx} {pins:List (Addr×Obj)} {σ:St} {H:Hp} {s:Shared} {a:Addr} {y v:V} {u r:Value} {o:Option V} {A:Around} {E:Value->Shared->Prop}
theorem Inv.big (I:Inv X pins σ H s):sysModules<s.heap.objs.size:=by
 have h:zCD<s.heap.objs.size:=(I.mod.glob.keeps I.bk).lt;exact Nat.lt_trans (by decide) h
theorem U2 {h':Heap} {t':Nat} {ob:HO} (I:Inv X pins σ H s) (mu:NU (H a)) (hs:zAQ a s.heap h') (he:∃ q,h'.get? a=some q) (new:ObjOk X.prog X.w (upd H a ob) h' a ob) :
  Inv X pins σ (upd H a ob) { s with heap:=h',toks:=t' }:=
 I.write (x:=a) (e:=a) mu (.inl rfl) (fun b q hb z=>(hs.2 b hb).trans z) he new
theorem KE {P:Program} {w:World} {H':Hp} {h':Heap} {kvs:List (Dt×V)} {vs:List (Dt×Value)} (z:kvs.length<=sizeLine) (hd:(a==sysModules)=false) (rel:KV kvs vs) (dd:h'.DictOf (Dl P w) a vs) :
  ObjOk P w H' h' a (.dK kvs):=⟨z,hd,vs,rel,dd⟩
theorem AQ {H':Hp} {Q:Unit->Shared->Prop} (hu:A.units+1<cLine) (I:Inv X pins σ H s) (g:DPut H a y v H') (ry:RelV y u) (rv:RelV v r) (h:∀ s',Inv X pins σ H' s'->Q () s') :
  wpAny (model X.prog X.w) A (setItem (.ref a) u r) Q E s:=by
 rcases g with ⟨kvs,k,e,ey,l,eH⟩ | ⟨kvs,k,b,e,ey,eb,l,eH⟩
 ·subst ey eH
  obtain⟨z,hd,vs,rel,dd⟩:=LX I.hok e;have hz:vs.length<=sizeLine:=by rw[<- rel.length]; exact z
  have hl:(Hb kvs k v).length<=sizeLine:=by have:=Jp kvs k v; lia
  refine wpAny_setItem_pairs (hsz:=hz) (FI ry) dd fun h' dd' hs=>h _ ?_;have he:∃ q,h'.get? a=some q:=let ⟨q,_,_,hq,_⟩:=dd'; ⟨q,hq⟩
  exact U2 I (by rw[e]; exact True.intro) hs he (KE hl hd (rel.put k rv) dd')
 ·subst ey eH
  cases (show u=Value.ref b from ry)
  obtain⟨z,hd,xs,rel,dd⟩:=MK I.hok e;have hz:xs.length<=sizeLine:=by rw[<- Paired.length rel]; exact z
  have hl:(Hb kvs k v).length<=sizeLine:=by have:=Jp kvs k v; lia
  refine wpAny_setItem_heap (hsz:=hz) (tupleKind_room_in1 hu) (N9 I.hok eb) dd fun h' dd' hs=>h _ ?_;obtain⟨q,es,ep,hq,h2,h3,h4,_,h5⟩:=dd';refine U2 I (by rw[e]; exact True.intro) hs ⟨q,hq⟩ ⟨hl,hd,_,(rel.put k eb rv).keeps fun c ys ec=>?_,q,es,ep,hq,h2,h3,h4,h5⟩;rw[Ar (He ec e (fun z=>nomatch z))];exact ec
end
section
variable {X:Cx} {pins:List (Addr×Obj)} {σ:St} {H:Hp} {s:Shared} {a:Addr} {kvs:List (Dt×V)} {k:Dt} {u:Value} {A:Around} {E:Value->Shared->Prop}
end
def MW (td ty tv:TE):TS:=fun D σ H=>tv σ H fun v H1=>td σ H1 fun x H2=>ty σ H2 fun y H3=>∃ a H4,x = .ref a/\DPut H3 a y v H4/\D.nx σ H4
section
variable {X:Cx} {o i e value:Expr} {pos pos' tpos:Pos} {td ty tv:TE}
theorem S9 (hu:X.A.units+1<cLine) (ho:PE X o td) (hi:PE X i ty) (hv:PE X value tv) (hs:swapsWith value (some (.Subscript o i pos')) pos.line X.env=pure false) :
  PS X (.Assign [.Subscript o i pos'] value pos) (MW td ty tv):=by
 intro pins s σ H D I h;refine wpAny_Assign_Subscript (Cs (hv pins s σ H _ I h) fun r s1 ⟨v,H1,I1,rv,q1⟩=>Cs (ho pins s1 σ H1 _ I1 q1) fun u s2 ⟨x,H2,I2,rx,q2⟩=>Cs (hi pins s2 σ H2 _ I2 q2) fun iv s3 ⟨y,H3,I3,ry,a,H4,ex,g,q3⟩=>?_) hs;subst ex;obtain rfl:u=Value.ref a:=rx;exact AQ hu I3 g ry rv fun s4 I4=>⟨σ,H4,I4,q3⟩
end
theorem BL {P:Program} {w:World} {H:Hp} (h:Heap) (hb:sysModules<h.objs.size):ObjOk P w H (h.push { cls:=.type "dict",data:=.dict #[] }) h.objs.size (.dT []):=
 ⟨zAB _,beq_eq_false_iff_ne.mpr (Ne.symm (zAu hb)),[],.nil,_,#[],0,zAt _ rfl,⟨rfl,rfl,rfl⟩,rfl,rfl,zCn⟩
def JU:TE:=fun _ H Q=>∀ p,H p=none->Q (.ref p) (upd H p (.dT []))
section
variable {X:Cx} {pos:Pos}
theorem Zm:PE X (.Dict [] [] pos) JU:=fun pins s σ H Q I h=>
 wpAny_Dict_empty ⟨.ref s.heap.objs.size,_,I.laid (a:=s.heap.objs.size) (o:=.dT []) (t':=s.toks) (fun _ _ q=>zAe _ q) (zAn _) (BL s.heap I.big),rfl,h _ (I.hok.fresh (zAn _))⟩
end
structure M2 (X:Cx) (o:Expr) (m:Str) (apos:Pos) (e f:Expr) (cpos:Pos):Prop where
 base:attributeBase o m X.env (eval o X.env)=eval o X.env
 few:((backTo cpos (starEach [e,f] X.env)).all (fun x => !x.1)&&(backToKw cpos (keywordEach [] X.env)).all (fun x=>x.1.isSome)
  && decide (([e,f]:List Expr).length+([]:List Keyword).length+(if ([]:List Keyword).isEmpty then 0 else 1)<30))=true
 line:(apos.endLine==cpos.line)=true
 trees:backTo cpos (starEach [e,f] X.env)=[(false,eval e X.env),(false,eval f X.env)]
def QM (H:Hp) (a:Addr):Prop:=(∃ kvs,Rd H a (.dK kvs))\/∃ kvs,Rd H a (.dT kvs)
theorem BZ {X:Cx} {pins:List (Addr×Obj)} {σ:St} {H:Hp} {s:Shared} {a:Addr} (I:Inv X pins σ H s) (d:QM H a) :
  s.TypeIs (.ref a) "dict"/\(∀ b,Value.ref a = .ref b->∃ ob,s.heap.get? b=some ob/\ob.dict=none)/\(a==sysModules)=false:=by
 rcases d with ⟨kvs,e⟩ | ⟨kvs,e⟩
 ·obtain⟨_,hd,vs,_,dd⟩:=CS I.hok e
  refine⟨dd.typeIs,fun b q=>?_,hd⟩;cases q;obtain⟨ob,_,_,h1,h2,_⟩:=dd;exact⟨ob,h1,h2.2.1⟩
 ·obtain⟨_,hd,xs,_,dd⟩:=CF I.hok e
  refine⟨dd.typeIs,fun b q=>?_,hd⟩;cases q;obtain⟨ob,_,_,h1,h2,_⟩:=dd;exact⟨ob,h1,h2.2.1⟩
section
variable {X:Cx} {pins:List (Addr×Obj)} {σ:St} {H:Hp} {s:Shared} {a:Addr} {y d:V} {u r:Value} {o:Option V} {A:Around} {E:Value->Shared->Prop}
theorem JT {Q:Value->Shared->Prop} (hu:A.units+1<cLine) (I:Inv X pins σ H s) (g:DGet H a y o) (ry:RelV y u) (rd:RelV d r) (h:∀ w' s',Inv X pins σ H s'->RelV (o.getD d) w'->Q w' s') :
  wpAny (model X.prog X.w) A (call (.builtin "dict.get") [.ref a,u,r]) Q E s:=by
 rcases g with ⟨kvs,k,e,ey,l⟩ | ⟨kvs,k,b,e,ey,eb,l⟩
 ·subst ey
  obtain⟨z,hd,vs,rel,dd⟩:=CS I.hok e;refine call_meetsIn PySem.F.slot_dict_get dd.typeIs PySem.F.entry_dict_get (PySem.F.args_dict_get_3 _ _ _) (meets_dict_get_default (Dl X.prog X.w) a (FI ry) hd r) ⟨_,dd.mapOf,h _ _ (I.tok _) ?_⟩;rw[l];exact (rel.val k).getD rd
 ·subst ey
  cases (show u=Value.ref b from ry)
  obtain⟨z,hd,xs,rel,dd⟩:=CF I.hok e;refine call_meetsIn PySem.F.slot_dict_get dd.typeIs PySem.F.entry_dict_get (PySem.F.args_dict_get_3 _ _ _) (meetsH_dict_get_default (tupleKind (Dl X.prog X.w)) a b hd r) ⟨tupleKind_room_in1 hu,k,xs,N9 I.hok eb,dd,h _ _ (I.tok _) ?_⟩;rw[l];exact (rel.val k).getD rd
end
def JG (td ty tx:TE):TE:=fun σ H Q=>td σ H fun x H1=>∃ a,x = .ref a/\QM H1 a/\ty σ H1 fun y H2=>tx σ H2 fun z H3=>∃ o,DGet H3 a y o/\Q (o.getD z) H3
section
variable {X:Cx} {o e f:Expr} {apos cpos:Pos} {td ty tx:TE}
theorem DY (hu:X.A.units+1<cLine) (ho:PE X o td) (he:PE X e ty) (hf:PE X f tx) (m:M2 X o "get" apos e f cpos):PE X (.Call (.Attribute o "get" apos) [e,f] [] cpos) (JG td ty tx):=by
 intro pins s σ H Q I h;refine wpAny_Call_method m.base m.few m.line PySem.F.plainAttrs_dict PySem.F.slot_dict_get PySem.F.type_dict_get (Cs (ho pins s σ H _ I h) fun u s1 ⟨x,H1,I1,rx,a,ex,d,q1⟩=>?_);subst ex;obtain rfl:u=Value.ref a:=rx;obtain⟨t1,t2,_⟩:=BZ I1 d;refine⟨t1,t2,?_⟩;rw[m.trees];refine Calls.callWith_builtin rfl (Calls.evalArgs_plain (Calls.spliced_cons (Cs (he pins s1 σ H1 _ I1 q1) fun iv s2 ⟨y,H2,I2,ry,q2⟩=>
  Calls.spliced_cons (Cs (hf pins s2 σ H2 _ I2 q2) fun fv s3 ⟨z,H3,I3,rz,ov,g,q3⟩=>Calls.spliced_nil ?_))))
 exact JT hu I3 g ry rz fun w' s4 I4 rw'=>⟨_,H3,I4,rw',q3⟩
end
section
variable {X:Cx} {pins:List (Addr×Obj)} {σ:St} {H:Hp} {s:Shared} {a:Addr} {kvs:List (Dt×V)} {A:Around} {E:Value->Shared->Prop}
end
section
variable {X:Cx} {pins:List (Addr×Obj)} {σ:St} {H:Hp} {s:Shared} {a:Addr} {y:V} {u:Value} {A:Around} {E:Value->Shared->Prop}
end
section
variable {X:Cx}
end
section
variable {κ:Type} [DecidableEq κ]
end
def V0 (cells:List (Str×Addr)):List (Str×NameKind)->List (Str×Addr)->List (Str×Addr)
 | [],cs=>cs
 | (n,k)::r,cs=>V0 cells r (if k==NameKind.free then (match cells.lookup n with | some a=>(n,a)::cs | none=>cs) else cs)
theorem A7 {env:Env}:∀ (names:List (Str×NameKind)) (cs:List (Str×Addr)),(∀ y∈names,y.2 = .free->∃ c,env.cells.lookup y.1=some c) ->
  (forIn names cs fun (x:Str×NameKind) (r:List (Str×Addr))=>if (x.2==NameKind.free)=true then (do let a <- cellOf env x.1; pure (ForInStep.yield ((x.1,a)::r))) else (pure (ForInStep.yield r):Sem (ForInStep (List (Str×Addr)))))
   = (pure (V0 env.cells names cs):Sem (List (Str×Addr)))
 | [],cs,_=>rfl
 | (n,k)::r,cs,h=>by
  have ih:=A7 (env:=env) r;rw[List.forIn_cons];unfold V0;cases hk:(k==NameKind.free) with
  | false=>
   simp only [zBM,if_false];show (forIn r cs _:Sem _)=_;exact ih cs fun y hy=>h y (zAg _ hy)
  | true=>
   obtain⟨c,hc⟩:=h (n,k) zAj (by simpa using hk);have hc':env.cells.lookup n=some c:=hc;have e:cellOf env n=pure c:=by unfold cellOf; rw[hc']
   simp only [if_true,e,hc'];show (forIn r ((n,c)::cs) _:Sem _)=_;exact ih _ fun y hy=>h y (zAg _ hy)
theorem DX {scope:Scope} {env:Env} (h:∀ y∈scope.names,y.2 = .free->∃ c,env.cells.lookup y.1=some c):closureFor scope env=pure (V0 env.cells scope.names []):=by
 unfold closureFor;have q:=A7 (env:=env) scope.names [] h;refine Eq.trans ?_ (congrArg (fun z:Sem (List (Str×Addr))=>z >>= fun cs=>pure cs) q);rfl
set_option tactic.hygienic true in
theorem W9 {cells:List (Str×Addr)}:∀ (names:List (Str×NameKind)) (cs:List (Str×Addr)),(∀ p∈cs,cells.lookup p.1=some p.2)->∀ p∈V0 cells names cs,cells.lookup p.1=some p.2
 | [],cs,h,p,hp=>h p hp
 | (n,k)::r,cs,h,p,hp=>by
  unfold V0 at hp;refine W9 r _ (fun q hq=>?_) p hp
  split at hq
  ·split at hq
   ·rename_i a e
    rcases zAo.mp hq with rfl | hq
    ·exact e
    ·exact h q hq
   ·exact h q hq
  ·exact h q hq
theorem Iz {cells:List (Str×Addr)} {names:List (Str×NameKind)} {x:Str} {c:Addr} (e:(V0 cells names []).lookup x=some c):cells.lookup x=some c:=
 W9 names [] (fun _ z=>nomatch z) (x,c) (PySem.mem_of_lookup e)
theorem Vp {cells:List (Str×Addr)}:∀ (names:List (Str×NameKind)) (cs:List (Str×Addr)) (p:Str×Addr),p∈cs->p∈V0 cells names cs
 | [],cs,p,hp=>hp
 | (n,k)::r,cs,p,hp=>by
  unfold V0;refine Vp r _ p ?_
  split
  ·split
   ·exact zAg _ hp
   ·exact hp
  ·exact hp
theorem Yk {cells:List (Str×Addr)} {x:Str} {c:Addr} (hc:cells.lookup x=some c):∀ (names:List (Str×NameKind)) (cs:List (Str×Addr)),(x,NameKind.free)∈names->(x,c)∈V0 cells names cs
 | [],_,h=>nomatch h
 | (n,k)::r,cs,h=>by
  unfold V0;rcases zAo.mp h with e | h
  ·cases e
   refine Vp r _ _ ?_;rw[hc];simp
  ·exact Yk hc r _ h
theorem Eg {x:Str} {c:Addr}:∀ {l:List (Str×Addr)},(x,c)∈l->∃ d,l.lookup x=some d
 | [],h=>nomatch h
 | (y,d)::r,h=>by
  rw[zBC];cases e:(x==y) with
  | true=>exact⟨d,rfl⟩
  | false=>
   rcases zAo.mp h with z | z
   ·cases z
    simp at e
   ·exact Eg z
theorem Im {env:Env}:∀ {names:List (Str×NameKind)} {x:Str} {k:NameKind},
  (names.map fun (n,k)=>if (k==NameKind.free&&env.scope.kind == .function&&env.kindOf n==some .cell) then (n,NameKind.cell) else (n,k)).lookup x=some k ->
   names.lookup x=some k\/(k = .cell/\names.lookup x=some .free)
 | [],_,_,h=>by simp at h
 | (n,k0)::r,x,k,h=>by
  have ih:=@Im env r x k;rw[zAN] at h;rw[zBC];by_cases c:(k0==NameKind.free&&env.scope.kind == .function&&env.kindOf n==some .cell)=true
  ·have h':=h
   simp only [c,if_true] at h';rw[zBC] at h';cases e:(x==n) with
   | true=>
    rw[e] at h';have c1:k0 = .free:=by
     simp only [zAp] at c
     simpa using c.1.1
    refine .inr ⟨(Option.some.inj h').symm,?_⟩;rw[c1]
   | false=>
    rw[e] at h';exact ih h'
  ·have h':=h
   simp only [c,zBM,if_false] at h';rw[zBC] at h';cases e:(x==n) with
   | true=>
    rw[e] at h';exact .inl h'
   | false=>
    rw[e] at h';exact ih h'
theorem Mf {env:Env}:∀ {names:List (Str×NameKind)} {x:Str},names.lookup x=some .free ->
  (names.map fun (n,k)=>if (k==NameKind.free&&env.scope.kind == .function&&env.kindOf n==some .cell) then (n,NameKind.cell) else (n,k)).lookup x=some .cell \/
  (names.map fun (n,k)=>if (k==NameKind.free&&env.scope.kind == .function&&env.kindOf n==some .cell) then (n,NameKind.cell) else (n,k)).lookup x=some .free
 | [],_,h=>by simp at h
 | (n,k0)::r,x,h=>by
  have ih:=@Mf env r x;rw[zAN];rw[zBC] at h;by_cases c:(k0==NameKind.free&&env.scope.kind == .function&&env.kindOf n==some .cell)=true
  ·simp only [c,if_true,zBC]
   cases e:(x==n) with
   | true=>exact .inl rfl
   | false=>
    rw[e] at h;exact ih h
  ·simp only [c,zBM,if_false,zBC]
   cases e:(x==n) with
   | true=>
    rw[e] at h;exact .inr h
   | false=>
    rw[e] at h;exact ih h
def EF (sc scope:Scope):Bool:=
 scope.kind == .function&&scope.names.all fun y=>y.2 != .cell&&(y.2 != .local||scope.names.lookup y.1==some .local)&&(y.2 != .free||(sc.names.lookup y.1==some .cell||sc.names.lookup y.1==some .free))
structure CompScope (sc scope:Scope):Prop where
 kind:scope.kind = .function
 cell:∀ y∈scope.names,y.2 ≠ .cell
 own:∀ y∈scope.names,y.2 = .local->scope.names.lookup y.1=some .local
 free:∀ y∈scope.names,y.2 = .free->sc.names.lookup y.1=some .cell\/sc.names.lookup y.1=some .free
theorem CompScope.of {sc scope:Scope} (h:EF sc scope=true):CompScope sc scope:=by
 unfold EF at h;rw[zAp,zCw] at h;obtain⟨h1,h2⟩:=h;have h3:∀ y∈scope.names,(y.2 ≠ .cell/\(y.2 ≠ .local\/scope.names.lookup y.1=some .local))/\(y.2 ≠ .free\/(sc.names.lookup y.1=some .cell\/sc.names.lookup y.1=some .free)):=fun y hy=>by
  have q:=h2 y hy
  simpa [zAp,Bool.or_eq_true] using q
 refine⟨by simpa using h1,fun y hy=>(h3 y hy).1.1,fun y hy e=>?_,fun y hy e=>?_⟩
 ·exact (h3 y hy).1.2.resolve_left fun n=>n e
 ·exact (h3 y hy).2.resolve_left fun n=>n e
def Yx (X:Cx) (NC:List Str) (scope:Scope) (s3:Shared) (H3:Hp) (fp:List Addr):Cx:=
 { X with N:=NC,s₀ := s3,H₀ := H3,env:=compEnvC scope (V0 X.env.cells scope.names []) s3.heap.objs.size X.env,outer:=X.stack,ex:=fp,fn:=fun _=>false,pn:=[],xe:=fun _ _=>False }
def AS (own:Nat) (ix:List Nat) (σ:St):St:=zAv own none++ix.map fun j=>(σ[j]?).getD none
def Caps (X:Cx) (scope:Scope):List Str->List Nat->Prop
 | [],[]=>True
 | x::cs,j::js=>(X.N[j]?=some x/\(X.env.kindOf x=some .cell\/X.env.kindOf x=some .free)/\scope.names.lookup x=some .free)/\Caps X scope cs js
 | _,_=>False
theorem Caps.len {X:Cx} {scope:Scope}:∀ {cs:List Str} {js:List Nat},Caps X scope cs js->cs.length=js.length
 | [],[],_=>rfl
 | _::_,_::_,h=>by rw[zAf,zAf,Caps.len h.2]
 | [],_::_,h=>h.elim
 | _::_,[],h=>h.elim
theorem Caps.at {X:Cx} {scope:Scope}:∀ {cs:List Str} {js:List Nat} {i:Nat} {x:Str},Caps X scope cs js->cs[i]?=some x ->
  ∃ j,js[i]?=some j/\X.N[j]?=some x/\(X.env.kindOf x=some .cell\/X.env.kindOf x=some .free)/\scope.names.lookup x=some .free
 | [],[],_,_,_,e=>by simp at e
 | x::_,j::_,0,_,h,e=>by simp at e; subst e; exact⟨j,rfl,h.1⟩
 | _::_,_::_,i+1,_,h,e=>by
  obtain⟨j,e1,r⟩:=Caps.at (i:=i) h.2 (by simpa using e);exact⟨j,by simpa using e1,r⟩
 | [],_::_,_,_,h,_=>h.elim
 | _::_,[],_,_,h,_=>h.elim
def MB:TT:=fun _ H Q=>Q true H
def MF (Y:Cx) (ifs:List Expr) (t:TT):Prop:=
 ∀ (pins:List (Addr×Obj)) (s:Shared) (σ:St) (H:Hp) (Q:Bool->Hp->Prop),Inv Y pins σ H s->t σ H Q ->
  wpAny (model Y.prog Y.w) Y.A (forIn ifs true fun c r=>if r=true then do let ok <- isTrue c Y.env (eval c Y.env); pure (ForInStep.yield ok) else pure (ForInStep.yield r)) (TP Y pins σ Q) Y.xe s
theorem Dd {Y:Cx}:MF Y [] MB:=fun _ _ _ H _ I h=>wpAny_tests_nil ⟨H,I,h⟩
theorem Mg {Y:Cx} {c:Expr} {t:TT} (h:PT Y c t):MF Y [c] t:=fun pins s σ H Q I q=>wpAny_tests_one (h pins s σ H Q I q)
def D6 (g:TG) (tc:TT) (te:TE) (own:Nat) (ix:List Nat) (σ:St) (J:It) (p:Addr) (H1:Hp) (QQ:Hp->Prop):Prop:=
 ∃ W:Nat->Nat->List V->St->Hp->Prop,(∃ m,W 0 m [] (AS own ix σ) (upd H1 p (.lst [])))/\∀ i m ys σ2 H2,W i m ys σ2 H2->H2 p=some (.lst ys) /\
  ((J.stop i H2/\QQ H2)\/(J.go i H2/\ys.length<sizeLine/\∀ x H3,J.yld i H2 x H3->∃ N:List V->St->Hp->Prop,(∀ ys' σ' H',N ys' σ' H'->∃ m',m'<m/\W (i+1) m' ys' σ' H') /\
   g x σ2 H3 fun σ4 H4=>tc σ4 H4 fun b H5=>if b=true then te σ4 H5 fun y H6=>H6 p=some (.lst ys)/\N (ys++[y]) σ4 (upd H6 p (.lst (ys++[y]))) else N ys σ4 H5))
def IM (wi:TI) (g:TG) (tc:TT) (te:TE) (own:Nat) (ix:List Nat):TE:=fun σ H Q=>wi σ H fun J H1=>∀ p,H1 p=none->D6 g tc te own ix σ J p H1 (Q (.ref p))
theorem AK {prog:Program} {w:World} {A:Around} {R:Result->Shared->Prop} {s:Shared} {elt target iter:Expr} {ifs:List Expr} {scope:Scope} {pos:Pos} {it acc:Value} {env:Env} (I:Nat->Shared->Prop)
  (turn:∀ n s,I n s->wpAny (model prog w) A (pyNext it) (fun r s₁ => (r=none/\R (.ok .next) s₁)\/∃ v,r=some v /\
   wpAny (model prog w) A (letOwnedTupleGo target it v) (fun _ s₂ => wpAny (model prog w) A (assign target env v) (fun _ s₃ =>
    wpAny (model prog w) A (forIn ifs true fun c r=>if r=true then do let ok <- isTrue c env (eval c env); pure (ForInStep.yield ok) else pure (ForInStep.yield r)) (fun ok s₄ =>
     (ok=true/\wpAny (model prog w) A (eval elt env) (fun x s₅ => wpAny (model prog w) A (call (.builtin "list.append") [acc,x]) (fun _ s₆ => ∃ m,m<n/\I m s₆) (fun _ _=>False) s₅) (fun _ _=>False) s₄) \/
     (ok=false/\∃ m,m<n/\I m s₄)) (fun _ _=>False) s₃) (fun _ _=>False) s₂) (fun _ _=>False) s₁) (fun _ _=>False) s)
  (n:Nat) (h:I n s):codeAny (model prog w) A (.compLoop (.ListComp elt [⟨target,iter,ifs,0⟩] scope pos) 0 it acc env) R s:=by
 refine codeAny_loop rfl I (fun n s hI=>?_) n h;show wpAny _ A ((compTurn (.ListComp elt [⟨target,iter,ifs,0⟩] scope pos) 0 it acc env).onRaise (fun x=>do noteFrame x env; theTreesLotGoes x)) _ _ s;refine wpAny_noted ?_;rw[compTurn_list];have no:∀ (e:Value) (s':Shared),False->notedBy (model prog w) A env (fun e s'=>R (.error e) s') e s':=fun _ _ f=>f.elim;refine zCy (wpAny_standAt (zCy (wpAny_mono (turn n s hI) (fun r s₁ h₁ => ?_) no)));rcases h₁ with ⟨rfl,h₁⟩ | ⟨v,rfl,h₁⟩
 ·exact zCz h₁
 refine zCy (wpAny_mono h₁ (fun _ s₂ h₂ => ?_) no);refine zCy (wpAny_mono h₂ (fun _ s₃ h₃ => ?_) no);refine zCy (wpAny_mono h₃ (fun ok s₄ h₄ => ?_) no);rcases h₄ with ⟨rfl,h₄⟩ | ⟨rfl,h₄⟩
 ·refine zCy (zCy (wpAny_mono h₄ (fun x s₅ h₅ => ?_) no))
  exact zCy (wpAny_mono h₅ (fun _ s₆ h₆ => zCz (zCz ⟨rfl,h₆⟩)) no)
 ·exact zCz ⟨rfl,h₄⟩
section
variable {X:Cx} {pins:List (Addr×Obj)} {σ:St} {H H':Hp} {s s':Shared}
theorem C2 {NC own cs:List Str} {ix:List Nat} {scope:Scope} {fp:List Addr} {h4:Heap} {t4:Nat} (I:Inv X pins σ H s) (S:CompScope X.env.scope scope) (hN:NC=own++cs) (hc:Caps X scope cs ix)
  (hf:∀ b∈fp,Np X pins H b) (hl:∀ b∈fp,b<s.heap.objs.size) (hns:h4.Ns s.heap.objs.size fun _=>none) (hk:∀ b o,s.heap.get? b=some o->h4.get? b=some o) :
  Inv (Yx X NC scope s H fp) [] (AS own.length ix σ) H { s with heap:=h4,toks:=t4 }:=by
 have cs_has:∀ y∈scope.names,y.2 = .free->∃ c,X.env.cells.lookup y.1=some c:=fun y hy e=>I.ok.has y.1 (S.free y hy e);have len:=hc.len;refine⟨⟨I.ok.mod,S.kind,I.ok.glob,I.ok.blt,zAn _,fun x y c e1 e2=>I.ok.inj x y c (Iz e1) (Iz e2),fun x hx=>?_,fun _ _ z=>(nomatch z),I.ok.hd,I.ok.frames,.inl rfl,fun b hb=>⟨zAu (hl b hb),fun x c e=>(hf b hb).2.2.2.2.1 x c (Iz e)⟩,
   I.bs,zAG I.ok.bsz I.sz,fun b o e hb=>?_,fun b hb z=>?_,I.stack,I.stkFree⟩,rfl,I.bare,Un.kept hk,⟨_,hns,fun i x v e1 e2 e3=>?_⟩,fun x c e=>?_,I.hok.fresh (zAn _),fun x c e=>I.freeC x c (Iz e),fun p hp=>?_,I.hok.kept hk,?_⟩
 ·-- a cell for each caught name
  have hx':(relabel scope X.env).names.lookup x=some .cell\/(relabel scope X.env).names.lookup x=some .free:=hx;have q:scope.names.lookup x=some .free:=by
   rcases hx' with h | h
   ·rcases Im h with h | ⟨_,h⟩
    ·exact absurd rfl (S.cell _ (PySem.mem_of_lookup h))
    ·exact h
   ·rcases Im h with h | ⟨z,_⟩
    ·exact h
    ·cases z
  obtain⟨c,hc'⟩:=cs_has (x,.free) (PySem.mem_of_lookup q) rfl;exact Eg (Yk hc' scope.names [] (PySem.mem_of_lookup q))
 ·rcases (hf b hb).2.2.2.1 with z | z
  ·exact I.ok.noex b o e z
  ·exact absurd (zAH (zAq e) (zAG I.ok.bsz z)) (zBo _)
 ·rcases zAo.mp (I.stkSub b z) with z | z
  ·exact (hf b hb).2.1 z
  ·exact (hf b hb).2.2.1 z
 ·-- the caught names' values
  have e1':(own++cs)[i]?=some x:=hN▸e1;have hi:own.length<=i:=by
   by_cases hi:own.length<=i
   ·exact hi
   ·unfold AS at e2
    rw[List.getElem?_append_left (by rw[zBe]; omega),List.getElem?_replicate,if_pos (by omega)] at e2;cases e2
  rw[zCd hi] at e1';obtain⟨j,ej,en,kx,fx⟩:=hc.at e1';have e2':(σ[j]?).getD none=some v:=by
   unfold AS at e2;rw[zCd (by rw[zBe]; omega),zBe,zAw,ej] at e2;exact Option.some.inj e2
  have e2'':σ[j]?=some (some v):=by
   cases z:σ[j]? with
   | none=>rw[z] at e2'; cases e2'
   | some o=>rw[z] at e2'; exact congrArg some e2'
  obtain⟨m,_,hl'⟩:=I.loc;obtain⟨u,ru,l⟩:=hl' j x v en e2'' (kx.elim (fun z=>.inr (.inl z)) fun z=>.inr (.inr z));refine⟨u,ru,.inr ⟨Mf fx,?_⟩⟩;rcases l with ⟨k,_⟩ | ⟨_,c,e,z⟩
  ·rcases kx with k' | k' <;> rw[k] at k' <;> cases k'
  ·obtain⟨d,hd⟩:=Eg (Yk e scope.names [] (PySem.mem_of_lookup fx))
   have e':=Iz hd;rw[e] at e';cases e';obtain⟨o,ho,dd⟩:=z;exact⟨c,hd,o,hk c o ho,dd⟩
 ·obtain⟨v,o,ho,dd⟩:=I.cell x c (Iz e)
  exact⟨v,o,hk c o ho,dd⟩
 ·exact absurd (show p∈([]:List (Addr×Obj)) from hp) (by simp)
 ·show (AS own.length ix σ).length=NC.length
  rw[hN];unfold AS;rw[zAm,zAm,zBe,zAb,len]
theorem Vi {NC:List Str} {scope:Scope} {fp:List Addr} {σ':St} {h':Heap} (I:Inv X pins σ H s) (hf:∀ b∈fp,Np X pins H b) (J:Inv (Yx X NC scope s H fp) [] σ' H' s') (hs:zAQ s.heap.objs.size s'.heap h'):Inv X pins σ H' { s' with heap:=h' }:=by
 obtain⟨hh,g,d,t,os⟩:=s';have hos:os=s.os:=J.os;subst hos;have nC:H' s.heap.objs.size=none:=J.free;have un:Un (AI X.stack) fp H H' s.heap hh:=J.base;have out:∀ b o,s.heap.get? b=some o->b≠s.heap.objs.size:=fun b o e=>zAu (zAq e);have un':Un (AI X.stack) fp H H' s.heap h':=⟨fun b o e n hb hx=>(hs.2 b (out b o e)).trans (un.keep b o e n hb hx),fun b o e n hb hx=>let ⟨sl,q⟩:=un.slot b o e n hb hx; ⟨sl,(hs.2 b (out b o e)).trans q⟩,un.free,
  fun b o e hx=>let ⟨o',q⟩:=un.there b o e hx; ⟨o',(hs.2 b (out b o e)).trans q⟩,un.tups,un.frzs,un.tbls⟩
 have hok:HOk X.prog X.w H' h':=fun b u e=>by
  refine (J.hok b u e).stay (fun c v hc q=>(hs.2 c ?_).trans q) (fun _ q=>q) fun _ _ q=>q;rintro rfl;rcases hc with rfl | hc
  ·rw[nC] at e; cases e
  ·rw[nC] at hc; cases hc
 have q:=Inv.call (s:=s) (h':=h') (g':=g) (d':=d) (t':=t) (ch:=fp) I un' hok J.bare fun b hb=>⟨(hf b hb).2.2.2.1,(hf b hb).2.1,(hf b hb).2.2.2.2.1,(hf b hb).2.2.2.2.2⟩;exact q
end
theorem Vb {X:Cx} {elt tg iter:Expr} {ifs:List Expr} {scope:Scope} {pos:Pos} {NC own cs:List Str} {ix:List Nat} {g:TG} {tc:TT} {te:TE} (hc:X.calm=true) (S:CompScope X.env.scope scope) (hN:NC=own++cs) (hcap:Caps X scope cs ix)
  (hg:∀ s3 H3 fp,PG (Yx X NC scope s3 H3 fp) tg g) (ht:∀ s3 H3 fp,MF (Yx X NC scope s3 H3 fp) ifs tc) (he:∀ s3 H3 fp,PE (Yx X NC scope s3 H3 fp) elt te)
  {pins:List (Addr×Obj)} {σ:St} {H2:Hp} {s2:Shared} {it:Addr} {fp:List Addr} {tn:Nat->Heap->Prop} {J:It} (I2:Inv X pins σ H2 s2) (T:Wl X.prog X.w X.K tg J fp it tn) (st2:tn 0 s2.heap) (f2:∀ b∈fp,Np X pins H2 b) {QQ:Addr->Hp->Prop} {E:Value->Shared->Prop}
  {RR:Value->Addr->Result->Shared->Prop}
  (h2:∀ p,H2 p=none->D6 g tc te own.length ix σ J p H2 (QQ p))
  (fin:∀ s3 H3 σ5 H5 s6,Inv X pins σ H3 s3->(∀ b∈fp,Np X pins H3 b)->Inv (Yx X NC scope s3 H3 fp) [] σ5 H5 s6->QQ s2.heap.objs.size H5->RR (.ref s2.heap.objs.size) s3.heap.objs.size (.ok .next) s6) :
  wpAny (model X.prog X.w) X.A (newList []) (fun acc s3=>wpAny (model X.prog X.w) X.A (newFunctionEnv scope X.env.globals (V0 X.env.cells scope.names []) [] X.env.qual none .none (some X.env)) (fun cenv s4=>
   codeAny (model X.prog X.w) X.A (.compStart (.ListComp elt [⟨tg,iter,ifs,0⟩] scope pos) 0 (.ref it) acc { cenv with scope:=relabel scope X.env }) (RR acc cenv.locals) s4) E s3) E s2:=by
 have lt2:∀ b∈fp,b<s2.heap.objs.size:=fun b hb=>let ⟨_,e,_⟩:=T.obj _ _ st2 b hb; zAq e
 obtain⟨W,⟨m0,w0⟩,turn⟩:=h2 _ I2.fresh;refine wpAny_newObj_type ?_;have I3:Inv X pins σ (upd H2 s2.heap.objs.size (.lst [])) { s2 with heap:=s2.heap.push { cls:=.type "list",dict:=none,data:=.seq ([]:List Value).toArray } }:=I2.lnew (t':=s2.toks) .nil (zAB _);have f3:∀ b∈fp,Np X pins (upd H2 s2.heap.objs.size (.lst [])) b:=fun b hb=>⟨by rw[Ar (zAu (lt2 b hb))]; exact (f2 b hb).1,(f2 b hb).2⟩;have st3:tn 0 (s2.heap.push { cls:=.type "list",dict:=none,data:=.seq ([]:List Value).toArray }):=T.keep _ _ _ st2 fun b hb o e=>zAe _ e;have lt3:∀ b∈fp,b<(s2.heap.push { cls:=.type "list",dict:=none,data:=.seq ([]:List Value).toArray }).objs.size:=fun b hb=>by rw[zBp]; exact zBz (lt2 b hb)
 refine wpAny_newFunctionEnv S.cell (fun _ z=>nomatch z) (fun h4 hns hsb=>?_) S.kind
 dsimp only at hns hsb ⊢
 have hk4:∀ b o,(s2.heap.push { cls:=.type "list",dict:=none,data:=.seq ([]:List Value).toArray }).get? b=some o->h4.get? b=some o:=fun b o e=>
  hsb.extBut b o (zAu (zAq e)) (zAe _ e)
 have J0:=C2 (t4:=s2.toks+([]:List (Str×Value)).length) I3 S hN hcap f3 lt3 hns hk4;have st4:tn 0 h4:=T.keep _ _ _ st3 fun b hb o e=>hk4 b o e;have fB:∀ {H':Hp},(∀ b∈fp,H' b=none)->∀ b∈fp,Np (Yx X NC scope { s2 with heap:=s2.heap.push { cls:=.type "list",dict:=none,data:=.seq ([]:List Value).toArray } } (upd H2 s2.heap.objs.size (.lst [])) fp) [] H' b:=fun hn b hb=>by
  refine⟨hn b hb,zAu (lt3 b hb),fun z=>?_,.inl hb,fun x c e=>(f3 b hb).2.2.2.2.1 x c (Iz e),fun p hp=>absurd (show p∈([]:List (Addr×Obj)) from hp) (by simp)⟩;rcases zAo.mp (I3.stkSub b z) with z | z
  ·exact (f3 b hb).2.1 z
  ·exact (f3 b hb).2.2.1 z
 have loop:∀ s4:Shared,s4={ s2 with heap:=h4,toks:=s2.toks+([]:List (Str×Value)).length } ->
   codeAny (model X.prog X.w) X.A (.compLoop (.ListComp elt [⟨tg,iter,ifs,0⟩] scope pos) 0 (.ref it) (.ref s2.heap.objs.size) (compEnvC scope (V0 X.env.cells scope.names []) (s2.heap.push { cls:=.type "list",dict:=none,data:=.seq ([]:List Value).toArray }).objs.size X.env))
    (RR (.ref s2.heap.objs.size) (s2.heap.push { cls:=.type "list",dict:=none,data:=.seq ([]:List Value).toArray }).objs.size) s4:=by
  rintro s4 rfl;refine AK (fun n s'=>∃ i ys σ' H',Inv (Yx X NC scope { s2 with heap:=s2.heap.push { cls:=.type "list",dict:=none,data:=.seq ([]:List Value).toArray } } (upd H2 s2.heap.objs.size (.lst [])) fp) [] σ' H' s'/\tn i s'.heap/\(∀ b∈fp,H' b=none)/\W i n ys σ' H') ?_ m0
   ⟨0,[],_,_,J0,st4,fun b hb=>(f3 b hb).1,w0⟩
  rintro n s5 ⟨i,ys,σ5,H5,J5,st5,fr5,w5⟩;obtain⟨hp5,alt⟩:=turn i n ys σ5 H5 w5;rcases alt with ⟨stop,qn⟩ | ⟨go,hz,step⟩
  ·refine Cs (T.done (Yx X NC scope _ _ fp) rfl rfl rfl hc i [] s5 σ5 H5 _ J5 (fB fr5) st5 stop) fun r s6 ⟨hr,J6⟩=>.inl ⟨hr,?_⟩
   exact fin _ _ _ _ _ I3 f3 J6 qn
  ·refine Cs (T.item (Yx X NC scope _ _ fp) rfl rfl rfl hc i [] s5 σ5 H5 _ J5 (fB fr5) st5 go) fun r s6 ⟨u,hr,h6⟩=>.inr ⟨u,hr,?_⟩
   refine Cs h6 fun _ s7 ⟨x,H7,J7,r7,y7,st7,fr7⟩=>?_;have J7':=J7.pinned (fB fr7) (T.obj _ _ st7);obtain⟨N,hN',q7⟩:=step x H7 y7;refine Cs (hg _ _ fp _ s7 σ5 H7 x u _ J7' r7 q7) fun _ s8 ⟨σ8,H8,J8,q8⟩=>?_;refine Cs (ht _ _ fp _ s8 σ8 H8 _ J8 q8) fun ok s9 ⟨H9,J9,q9⟩=>?_;have again:∀ {σa:St} {Ha:Hp} {sa:Shared} {ya:List V} {ma:Nat},Inv (Yx X NC scope { s2 with heap:=s2.heap.push { cls:=.type "list",dict:=none,data:=.seq ([]:List Value).toArray } } (upd H2 s2.heap.objs.size (.lst [])) fp) ([]++Tb fp s7.heap) σa Ha sa->ma<n->W (i+1) ma ya σa Ha ->
     ∃ m,m<n/\∃ i ys σ' H',Inv (Yx X NC scope { s2 with heap:=s2.heap.push { cls:=.type "list",dict:=none,data:=.seq ([]:List Value).toArray } } (upd H2 s2.heap.objs.size (.lst [])) fp) [] σ' H' sa/\tn i sa.heap/\(∀ b∈fp,H' b=none)/\W i m ys σ' H':=fun {σa Ha sa ya ma} Ja hm wa=>by
    refine⟨ma,hm,i+1,ya,σa,Ha,Ja.unpinned,T.keep _ _ _ st7 fun b hb o e=>(Ja.pin (b,o) (zAM _ (zAM _ (Iq hb e)))).1,fun b hb=>?_,wa⟩;obtain⟨o,e,d⟩:=T.obj _ _ st7 b hb;exact (Ja.pin (b,o) (zAM _ (zAM _ (Iq hb e)))).2.1
   cases ok with
   | false=>
    obtain⟨m',hm,w'⟩:=hN' _ _ _ (show N ys σ8 H9 from q9);exact .inr ⟨rfl,again J9 hm w'⟩
   | true=>
    refine .inl ⟨rfl,Cs (he _ _ fp _ s9 σ8 H9 _ J9 q9) fun yv s10 ⟨y,H10,J10,r10,hp10,n10⟩=>?_⟩;obtain⟨m',hm,w'⟩:=hN' _ _ _ n10;refine Cs (Dm _ s10 σ8 H10 (.ref s2.heap.objs.size) [y] (.ref s2.heap.objs.size) [yv] (fun _ Hz=>Hz=upd H10 s2.heap.objs.size (.lst (ys++[y]))) J10 rfl (.cons r10 .nil) ⟨_,ys,y,rfl,rfl,hp10,hz,rfl⟩) fun _ s11 ⟨_,H11,J11,_,e11⟩=>?_;subst e11;exact again J11 hm w'
 exact codeAny_compStart_list (loop _ rfl) (T.self X.A 0 _ _ _ st4 (loop _ rfl))
theorem Dj {X:Cx} {elt tg iter:Expr} {ifs:List Expr} {scope:Scope} {pos:Pos} {NC own cs:List Str} {ix:List Nat} {wi:TI} {g:TG} {tc:TT} {te:TE} (hc:X.calm=true) (S:CompScope X.env.scope scope) (hN:NC=own++cs) (hcap:Caps X scope cs ix)
  (hi:PI X tg iter wi) (hg:∀ s3 H3 fp,PG (Yx X NC scope s3 H3 fp) tg g) (ht:∀ s3 H3 fp,MF (Yx X NC scope s3 H3 fp) ifs tc) (he:∀ s3 H3 fp,PE (Yx X NC scope s3 H3 fp) elt te)
  (hs:∀ x,foldedSetIterable iter X.env x=pure x:=by intro _; rfl):PE X (.ListComp elt [⟨tg,iter,ifs,0⟩] scope pos) (IM wi g tc te own.length ix):=by
 intro pins s σ H Q I h;rw[eval_ListComp];have has:∀ y∈scope.names,y.2 = .free->∃ c,X.env.cells.lookup y.1=some c:=fun y hy e=>I.ok.has y.1 (S.free y hy e);refine wpAny_comprehension_free (use:=none) rfl hs (DX has) S.kind S.own (Cs (hi pins s σ H _ I h) fun v s1 h1=>Cs h1 fun itv s2 h2=>?_);obtain⟨it,fp,tn,J,H2,e,I2,T,st2,f2,h2⟩:=h2;subst e;refine Vb hc S hN hcap hg ht he I2 T st2 f2 (QQ:=fun p=>Q (.ref p)) (RR:=fun acc C=>compPost (model X.prog X.w) X.A X.xe none (EP X pins σ Q) acc C) h2 fun s3 H3 σ5 H5 s6 I3 f3 J6 qn=>?_;obtain⟨m6,hn6,_⟩:=J6.loc;exact⟨m6,hn6,fun h7 hs7=>⟨.ref s2.heap.objs.size,H5,Vi I3 f3 J6 hs7,rfl,qn⟩⟩
theorem Kj {X:Cx} {elt tg iter:Expr} {ifs:List Expr} {scope:Scope} {pos py spos:Pos} {NC own cs:List Str} {ix:List Nat} {wi:TI} {g:TG} {tc:TT} {te:TE} {y:Str} {j:Nat} (hnd:X.N.Nodup) (hj:X.N[j]?=some y) (hy:X.env.scope.names.lookup y=some .local) (hc:X.calm=true) (S:CompScope X.env.scope scope) (hN:NC=own++cs) (hcap:Caps X scope cs ix)
  (hi:PI X tg iter wi) (hg:∀ s3 H3 fp,PG (Yx X NC scope s3 H3 fp) tg g) (ht:∀ s3 H3 fp,MF (Yx X NC scope s3 H3 fp) ifs tc) (he:∀ s3 H3 fp,PE (Yx X NC scope s3 H3 fp) elt te)
  (hsw:swapsWith (.ListComp elt [⟨tg,iter,ifs,0⟩] scope pos) (some (.Name y py)) spos.line X.env=pure true:=by rfl) (hs:∀ x,foldedSetIterable iter X.env x=pure x:=by intro _; rfl) :
  PS X (.Assign [.Name y py] (.ListComp elt [⟨tg,iter,ifs,0⟩] scope pos) spos) (HP (IM wi g tc te own.length ix) (Ey j)):=by
 intro pins s σ H D I h;rw[exec_Assign_Name_used _ _ _ _ hsw];refine zCy (wpAny_standAt (zCy ?_));show wpAny _ X.A (comprehension (.ListComp elt [⟨tg,iter,ifs,0⟩] scope pos) scope X.env _ (newList []) false (eval iter X.env) (some (assign (.Name y py) X.env)) >>= fun _=>_) _ _ s;have has:∀ y∈scope.names,y.2 = .free->∃ c,X.env.cells.lookup y.1=some c:=fun y hy e=>I.ok.has y.1 (S.free y hy e);refine zCy (Cs (wpAny_comprehension_free (use:=some (assign (.Name y py) X.env)) (Q:=fun _ s'=>SP X pins D .next s') rfl hs (DX has) S.kind S.own (Cs (hi pins s σ H _ I h) fun v s1 h1=>Cs h1 fun itv s2 h2=>?_)) fun _ s' hq=>zCz (zCz hq));obtain⟨it,fp,tn,J,H2,e,I2,T,st2,f2,h2⟩:=h2;subst e;refine Vb hc S hN hcap hg ht he I2 T st2 f2 (QQ:=fun p H'=>D.nx (σ.set j (some (.ref p))) H') (RR:=fun acc C=>compPost (model X.prog X.w) X.A X.xe (some (assign (.Name y py) X.env)) (fun _ s'=>SP X pins D .next s') acc C) h2 fun s3 H3 σ5 H5 s6 I3 f3 J6 qn=>?_;obtain⟨m6,hn6,_⟩:=J6.loc;have I6:=Vi I3 f3 J6 (zAQ.refl ..);show wpAny _ X.A (assign (.Name y py) X.env (.ref s2.heap.objs.size)) _ _ s6;refine wpAny_assign_Name (Wh (v:=.ref s2.heap.objs.size) I6 hnd hj (.inl hy) rfl (fun s7 I7 ⟨a,hs7,ha⟩=>?_) (.inr hy));have hCa:s3.heap.objs.size≠a:=by
  rcases ha with ha | ha
  ·rw[ha]; exact Ne.symm (zAu I3.lt)
  ·obtain⟨v,q⟩:=I3.cell y a ha
   exact Ne.symm (zAu q.lt)
 refine⟨m6,hn6.sameBut hs7 hCa,fun h8 hs8=>?_⟩;have nC:H5 s3.heap.objs.size=none:=J6.free;have I8:Inv X pins (σ.set j (some (.ref s2.heap.objs.size))) H5 { s7 with heap:=h8,toks:=s7.toks }:=by
  refine I7.turned (it:=s3.heap.objs.size) (fun b o hb e=>(hs8.2 b hb).trans e) nC (Ne.symm (zAu I3.lt)) (.inr I3.sz) (fun x c e z=>?_) (fun p hp z=>?_)
  ·obtain⟨v,q⟩:=I3.cell x c e
   exact absurd (z▸q.lt) (zBo _)
  ·exact absurd (z▸zAq (I3.pin p hp).1) (zBo _)
 exact⟨_,H5,I8,qn⟩
theorem Ct {X:Cx}:Gf X (.builtin "isinstance") (fun xs H Q=>∃ x c cv t b,xs=[x,c]/\(∀ u,RelV c u->u=cv)/\Gz X.K H x t/\zAR X.K t cv=some b/\Q (.bl b) H):=by
 intro pins s σ H xs us Q I r h;obtain⟨x,c,cv,t,b,rfl,hc,ty,e,q⟩:=h;obtain⟨u,z,rfl,rx,rc⟩:=CQ r;cases hc z rc;exact AT I rx ty e fun tk=>⟨.bl b,H,I.tok tk,rfl,q⟩
theorem Kx {n:String}:∀ u,RelV (.ty n) u->u = .type n:=fun _ h=>h
theorem To {X:Cx} (hc:X.calm=true):Gf X (.builtin "sum") (fun xs H Q=>∃ p,∃ ns:List Int,xs=[.ref p]/\SqL X.K H p (ns.map V.int)/\Q (.int ns.sum) H):=by
 intro pins s σ H xs us Q I r h;obtain⟨p,ns,rfl,hq,q⟩:=h;obtain⟨u,rfl,rx⟩:=Ji r;cases rx;obtain⟨its,rv,pl,hz⟩:=I.list hq;have hi:IntsAre its ns:=Md rv;obtain⟨ys,ey⟩:=hi.allInts.items;have hl:s.heap.IsList p (intItems ys):=ey▸pl.isList;have es:preSum (numAt ys) ys.size=ns.sum:=by
  have e1:=hi.numsOf;have e2:numsOf (intItems ys).toList=ns:=by rw[<- ey]; exact e1
  rw[nums_intItems] at e2;rw[preSum_eq,zCs (by simp),e2]
 refine sum_intListG (I.ok.hd hc) hl fun h' tk t' hk=>?_;exact⟨.int ns.sum,H,I.kept hk,⟨t',by rw[es]⟩,q⟩
def GI:List V->List V->Bool
 | [],[]=>true
 | x::xs,y::ys=>Wc x y&&GI xs ys
 | _,_=>false
theorem R8:∀ {xs ys:List V},xs.length≠ys.length->GI xs ys=false
 | [],[],h=>absurd rfl h
 | [],_::_,_=>rfl
 | _::_,[],_=>rfl
 | x::xs,y::ys,h=>by
  unfold GI;rw[R8 (xs:=xs) (ys:=ys) fun e=>h (by rw[zAf,zAf,e]),zCm]
theorem R7:∀ {xs ys:List V},xs.length=ys.length->∀ e:Nat->Bool,(∀ j x y,xs[j]?=some x->ys[j]?=some y->e j=Wc x y)->(zAI xs.length).all e=GI xs ys
 | [],[],_,_,_=>rfl
 | [],_::_,h,_,_=>by simp at h
 | _::_,[],h,_,_=>by simp at h
 | x::xs,y::ys,h,e,he=>by
  have ih:=R7 (xs:=xs) (ys:=ys) (by simpa using h) (fun j=>e (j+1)) fun j a b ha hb=>he (j+1) a b (by simpa using ha) (by simpa using hb);unfold GI;rw[zAf,List.range_succ_eq_map,zCu,List.all_map,he 0 x y rfl rfl,<- ih];rfl
def DE (its js:List Value) (xs ys:List V) (j:Nat):Bool:=match xs[j]?,ys[j]? with
 | some x,some y=>Wc x y
 | _,_=>true
theorem EO {X:Cx} {pins:List (Addr×Obj)} {s:Shared} {σ:St} {H:Hp} {A:Around} {xs ys:List V} {its js:List Value} (r1:Vals xs its) (r2:Vals ys js) (f1:xs.all Ew=true) (f2:ys.all Ew=true) (hl:xs.length=ys.length) :
  ∀ j (h1:j<its.toArray.size) (h2:j<js.toArray.size),SeqAt.EqAt A s its.toArray[j] js.toArray[j] (DE its js xs ys j):=fun j h1 h2=>by
 have l1:=r1.length;have l2:=r2.length;rw[zAh] at h1 h2;have e1:xs[j]?=some xs[j]:=zAd (by omega);have e2:ys[j]?=some ys[j]:=zAd (by omega);obtain⟨u,hu,ru⟩:=r1.get e1;obtain⟨v,hv,rv⟩:=r2.get e2;have eu:its.toArray[j]=u:=by rw[zBZ]; exact (zAi.mp hu).2
 have ev:js.toArray[j]=v:=by rw[zBZ]; exact (zAi.mp hv).2
 rw[eu,ev];unfold DE;rw[e1,e2];exact L9 ru rv (zCw.mp f1 _ (zAZ _)) (zCw.mp f2 _ (zAZ _))
def QB (K:zAa) (neg:Bool):R2:=fun x y H Q=>∃ a b xs ys,x = .ref a/\y = .ref b/\SqL K H a xs/\SqL K H b ys/\xs.all Ew=true/\ys.all Ew=true/\Q (.bl (if neg then !GI xs ys else GI xs ys)) H
theorem PH {X:Cx} (hu:X.A.units<cLine):Ko X (compareOp .Eq) (QB X.K false):=by
 intro pins s σ H x y v u Q I rx ry h;obtain⟨a,b,xs,ys,rfl,rfl,h1,h2,f1,f2,q⟩:=h;cases rx;cases ry;obtain⟨its,r1,p1,z1⟩:=I.list h1;obtain⟨js,r2,p2,z2⟩:=I.list h2;have l1:=r1.length;have l2:=r2.length;by_cases hl:xs.length=ys.length
 ·refine SeqAt.eq_listAt p1.isList p2.isList (by rw[zAh,zAh]; lia) hu (EO (X:=X) (pins:=pins) (σ:=σ) (H:=H) r1 r2 f1 f2 hl) ?_
  refine⟨.bl (GI xs ys),H,I,?_,q⟩;show Value.bool _=Value.bool _;rw[zAh,<- l1,R7 hl];intro j x y e1 e2;unfold DE;rw[e1,e2]
 ·refine SeqAt.eq_list_lengthsAt p1.isList p2.isList (by simp only [zAh,bne_iff_ne,ne_eq]; lia) hu ?_
  exact⟨.bl (GI xs ys),H,I,by rw[R8 hl]; rfl,q⟩
def PP (K:zAa) (te:TE) (tk:TE):TE:=fun σ H Q=>te σ H fun x H1=>tk σ H1 fun k H2=>k = .int (-1)/\∃ a xs,x = .ref a/\SqL K H2 a xs/\∀ p,H2 p=none->Q (.ref p) (upd H2 p (.lst xs.reverse))
theorem JE {X:Cx} {e k:Expr} {te tk:TE} {p2 pos:Pos} (he:PE X e te) (hk:PE X k tk):PE X (.Subscript e (.Slice none none (some k) p2) pos) (PP X.K te tk):=by
 intro pins s σ H Q I h;refine Subscript_ (Cs (he pins s σ H _ I h) fun v s1 ⟨x,H1,I1,r1,q1⟩=>?_);refine wpAny_Slice ?_;rw[evalPart_none];refine zCz (zCz ?_);rw[evalPart_some];refine Cs (hk pins s1 σ H1 _ I1 q1) fun vk s2 ⟨z,H2,I2,r2,hz,a,xs,ex,hx,q⟩=>?_;subst hz ex;cases r1;obtain⟨t,rfl⟩:=r2;have I4:Inv X pins σ H2 { s2 with heap:=s2.heap.push { cls:=.type "slice",data:=.fields #[.none,.none,.int (-1) t] } }:=I2.kept (t':=s2.toks) fun b ob q=>zAe _ q;obtain⟨its,r,ht,hz⟩:=I4.list hx;have hlen:=r.length;refine tail_any (ops:=[.ref a,.ref s2.heap.objs.size]) ht.isList.typeIs slot_list_getitem.lookup ?_ (by with_unfolding_all rfl);refine wpAny_getItem_list_slice ht.isList (Heap.IsSliceOf.new ..) .none .none (.int (-1) t) (by decide) ?_ (by rw[zAh] <;> lia);refine⟨.ref _,_,I4.laid (t':=s2.toks) (o:=.lst xs.reverse) (fun b ob q=>zAe _ q) (zAn _) ?_,rfl,q _ (I4.hok.fresh (zAn _))⟩;refine⟨by rw[List.length_reverse]; exact hz,its.reverse,0,r.reverse,?_⟩;rw[PySem.W.krv_pick];exact zAt _ rfl
abbrev Ga (ix:List Nat) (σ:St):St:=ix.map fun j=>(σ[j]?).getD none
theorem Lq {lo:Int} {n:Nat} {tc:TT} {te:TE} {σ:St} {ix:List Nat} {QQ:Hp->Prop} {H1:Hp} {p:Addr} (Pv:Nat->List V->Hp->Prop) (h0:Pv 0 [] (upd H1 p (.lst [])))
  (hp:∀ i ys H,i<=n->Pv i ys H->H p=some (.lst ys)/\ys.length<=i) (hn:n<=sizeLine)
  (hs:∀ i ys H,i<n->Pv i ys H->tc (some (.int (lo+i))::Ga ix σ) H fun b H5=>if b=true then te (some (.int (lo+i))::Ga ix σ) H5 fun y H6=>H6 p=some (.lst ys) /\
   (some (.int (lo+i))::Ga ix σ)=(some (.int (lo+i))::Ga ix σ)/\Pv (i+1) (ys++[y]) (upd H6 p (.lst (ys++[y]))) else (some (.int (lo+i))::Ga ix σ)=(some (.int (lo+i))::Ga ix σ)/\Pv (i+1) ys H5)
  (hd:∀ ys H,Pv n ys H->QQ H) :
  D6 (Ey 0) tc te 1 ix σ (LD lo n) p H1 QQ:=by
 refine⟨fun i m ys σ2 H2=>m=n-i/\i<=n/\(∃ o,σ2=o::Ga ix σ)/\Pv i ys H2,⟨n,by simp,zAB _,⟨none,rfl⟩,h0⟩,?_⟩;rintro i m ys σ2 H2 ⟨rfl,hi,⟨o,rfl⟩,pv⟩;obtain⟨hp2,hl2⟩:=hp i ys H2 hi pv;refine⟨hp2,?_⟩;by_cases hlt:i<n
 ·refine .inr ⟨hlt,by lia,fun x H3 y=>?_⟩
  obtain⟨e,y⟩:=y;subst e y;exact⟨fun ys' σ' H'=>σ'=(some (.int (lo+i))::Ga ix σ)/\Pv (i+1) ys' H',fun ys' σ' H' ⟨e,q⟩=>⟨n-(i+1),by lia,rfl,hlt,⟨_,e⟩,q⟩,hs i ys _ hlt pv⟩
 ·have e:i=n:=by lia
  subst e;exact .inl ⟨zAn _,hd ys H2 pv⟩
theorem Ck {K:zAa} {a:Addr} {xs:List V} {tc:TT} {te:TE} {σ:St} {ix:List Nat} {QQ:Hp->Prop} {H1:Hp} {p:Addr} (Pv:Nat->List V->Hp->Prop) (h0:Pv 0 [] (upd H1 p (.lst [])))
  (hp:∀ i ys H,i<=xs.length->Pv i ys H->H p=some (.lst ys)/\ys.length<=i/\SqL K H a xs) (hn:xs.length<=sizeLine)
  (hs:∀ i x ys H,xs[i]?=some x->Pv i ys H->tc (some x::Ga ix σ) H fun b H5=>if b=true then te (some x::Ga ix σ) H5 fun y H6=>H6 p=some (.lst ys) /\
   (some x::Ga ix σ)=(some x::Ga ix σ)/\Pv (i+1) (ys++[y]) (upd H6 p (.lst (ys++[y]))) else (some x::Ga ix σ)=(some x::Ga ix σ)/\Pv (i+1) ys H5)
  (hd:∀ ys H,Pv xs.length ys H->QQ H) :
  D6 (Ey 0) tc te 1 ix σ (LQ K a) p H1 QQ:=by
 refine⟨fun i m ys σ2 H2=>m=xs.length-i/\i<=xs.length/\(∃ o,σ2=o::Ga ix σ)/\Pv i ys H2,⟨xs.length,by simp,zAB _,⟨none,rfl⟩,h0⟩,?_⟩;rintro i m ys σ2 H2 ⟨rfl,hi,⟨o,rfl⟩,pv⟩;obtain⟨hp2,hl2,hq2⟩:=hp i ys H2 hi pv;refine⟨hp2,?_⟩;by_cases hlt:i<xs.length
 ·refine .inr ⟨⟨xs,xs[i],hq2,by simp [hlt]⟩,by lia,fun x H3 y=>?_⟩
  obtain⟨e,y⟩:=y;subst e;exact⟨fun ys' σ' H'=>σ'=(some x::Ga ix σ)/\Pv (i+1) ys' H',fun ys' σ' H' ⟨e,q⟩=>⟨xs.length-(i+1),by lia,rfl,hlt,⟨_,e⟩,q⟩,hs i x ys _ (y xs hq2) pv⟩
 ·have e:i=xs.length:=by lia
  subst e;exact .inl ⟨⟨xs,hq2,zAn _⟩,hd ys H2 pv⟩
structure Cn (P:Program) (w:World) (K:zAa) (mg:Str->Option Value) (base:Heap) (k:Nat) (x:Str) (ps:List Str) (sp:Sp):Prop where
 ex:∃ f fd,FnOk P w K mg base Cu k f fd ps sp/\Binds K fd ps []/\zAP K (.ref f)=true/\mg x=some (.ref f)
theorem Ax {X:Cx} {k:Nat} {x:Str} {ps:List Str} {sp:Sp} {e:Expr} {es:List Expr} {p pos:Pos} {t:TA} (C:Cn X.prog X.w X.K X.mg X.base k x ps sp) (hr:Room k X.A) (hg:Gl X x) (ha:PA X (e::es) t)
  (hdb:(x==("__debug__" : Str))=false:=by decide) (he:starEach (e::es) X.env=(false,eval e X.env)::starEach es X.env:=by rfl) (hpl:(backTo pos (starEach es X.env)).any (·.1)=false:=by rfl) :
  PE X (.Call (.Name x p) (e::es) [] pos) (V7 sp [] E0 t):=by
 obtain⟨f,fd,F,b,kp,hm⟩:=C.ex;exact HB F hr hg hm kp b .nil Vj ha hdb he hpl
structure Def (K:zAa) (mg:Str->Option Value) (x:Str) (st:Stmt) (ps:List Str):Prop where
 ex:∃ f fd,Fun K x x st f fd/\Binds K fd ps []/\mg x=some (.ref f)
theorem Def.cal {P:Program} {w:World} {K:zAa} {mg:Str->Option Value} {base:Heap} {k:Nat} {x:Str} {st:Stmt} {ps:List Str} {sp:Sp} (D:Def K mg x st ps) (h:∀ f fd,Fun K x x st f fd->FnOk P w K mg base Cu k f fd ps sp):Cn P w K mg base k x ps sp:=by
 obtain⟨f,fd,F,b,m⟩:=D.ex;exact⟨f,fd,h f fd F,b,F.kp,m⟩
def Mq (mg:Str->Option Value) (x:Str) (i:Int):Prop:=∃ t,mg x=some (.int i t)
def JC (mg:Str->Option Value) (x:Str) (z:Str):Prop:=∃ t,mg x=some (.str z t)
theorem Dk {X:Cx} {x:Str} {i:Int} {pos:Pos} (h:Mq X.mg x i) (hg:Gl X x) (hd:(x==("__debug__" : Str))=false:=by decide):PE X (.Name x pos) (tC (.int i)):=by
 obtain⟨t,e⟩:=h;exact R9 hg e ⟨t,rfl⟩ hd
theorem U6 {X:Cx} {x:Str} {i:Str} {pos:Pos} (h:JC X.mg x i) (hg:Gl X x) (hd:(x==("__debug__" : Str))=false:=by decide):PE X (.Name x pos) (tC (.str i)):=by
 obtain⟨t,e⟩:=h;exact R9 hg e ⟨t,rfl⟩ hd
theorem Ky {X:Cx} {x:Str} {pos:Pos} (T:String) (hg:Gl X x) (hm:X.mg x=none) (hv:zCB x=some (.type T)) (hn:x ≠ "__name__" := by decide) (hd:(x==("__debug__" : Str))=false:=by decide):PE X (.Name x pos) (tC (.ty T)):=
 HA (v:=.ty T) hg hm hv rfl hn hd
theorem Sw {X:Cx} {K:zAa} (h:X.K=K):LO X (NR K):=h▸Bo
theorem An {H:Hp} {p:Addr} (h:H p=none) (o:HO):Same H (upd H p o):=fun b u q=>by rw[Ar (Ap q h)]; exact q
theorem Ci {n:Nat} (h:n<=1000):n<=sizeLine:=Nat.le_of_lt (AO h)
theorem JM {ns:List Int} {i:Nat} {n:Int} (h:ns[i]?=some n):Me (ns.map V.int) (i:Int)=some (.int n):=Dr (by rw[zAw,h]; rfl)
theorem V8 {ns:List Int} {i:Int} (h0:0<=i) (h:i<ns.length):Me (ns.map V.int) i=some (.int (ns.getD i.toNat 0)):=by
 have e:((i.toNat:Nat):Int)=i:=by lia
 have q:=JM (ns:=ns) (i:=i.toNat) (n:=ns.getD i.toNat 0) (by rw[zAd (by lia),zAs,zAd (by lia)]; rfl);rw[e] at q;exact q
theorem KD {k:Nat} {A:Around} (hr:Room k A):A.units<cLine:=hr.units0
example:zCB "int" = some (.type "int"):=by rfl
def LN (K:zAa) (a:Addr):It:=
 ⟨fun i H=>∃ xs x,SqL K H a xs/\xs[i]?=some x,
   fun i H x H'=>∃ t y,x = .ref t/\H t=none/\(∀ xs,SqL K H a xs->xs[i]?=some y)/\H'=upd H t (.tup [.int i,y]),
   fun i H=>∃ xs,SqL K H a xs/\xs.length<=i⟩
theorem X1 {P:Program} {w:World} {K:zAa} {elts:List Expr} {k:Nat} {tp:Pos} (a e it:Addr) (hei:e≠it) :
  Wl P w K (.Tuple elts k tp) (LN K a) [e,it] e (fun i h=>(∃ old,IsEnum h e it i old)/\h.IsListIter it a i) where
 mem:=by simp
 obj:=fun i h st b hb=>by
  obtain⟨⟨old,he⟩,o,ho,c,d⟩:=st;rcases zAo.mp hb with rfl | hb
  ·exact⟨_,he,fun v z=>by
    have z':Data.fields _=Data.cell v:=z;cases z'⟩
  ·have eb:b=it:=by simpa using hb
   subst eb;exact⟨o,ho,fun v z=>by rw[d] at z; cases z⟩
 keep:=fun i h h' st kk=>by
  obtain⟨⟨old,he⟩,hit⟩:=st;exact⟨⟨old,kk e (by simp) _ he⟩,hit.at fun o x=>kk it (by simp) o x⟩
 item:=by
  intro X hP hw hK hc i pins s σ H E I hf st hg;subst hP hw hK;obtain⟨⟨old,he⟩,hit⟩:=st;obtain⟨xs,x,hq,hx⟩:=hg;obtain⟨its,rv,p,hz⟩:=I.list hq;obtain⟨u,hu,ru⟩:=rv.get hx;obtain⟨e0,e1,e2,e3,e4,e5⟩:=hf e (by simp);obtain⟨i0,i1,i2,i3,i4,i5⟩:=hf it (by simp);refine wpAny_pyNext_enum_item he hit p.isList (x:=u) (by simpa using hu) hei fun h1 ho hit1 hT hsz hk=>⟨_,rfl,?_⟩;refine wpAny_letOwnedTupleGo_enum ho fun h2 he2 hs2=>?_;have hs2':zAQ e h1 h2:=hs2;have helt:e<s.heap.objs.size:=zAq he;have hnT:H s.heap.objs.size=none:=I.hok.fresh (zAn _);have up:∀ b o,b≠e->b≠it->s.heap.get? b=some o->h2.get? b=some o:=fun b o h3 h4 q=>(hs2'.2 b h3).trans (hk b o h3 h4 q);have nch:∀ b,b∉[e,it]->b≠e/\b≠it:=fun b hb=>⟨fun z=>hb (by simp [z]),fun z=>hb (by simp [z])⟩;have ntr:∀ b o,H b=some o->b≠e/\b≠it:=fun b o q=>⟨fun z=>by (rw[z,e0] at q; cases q),fun z=>by (rw[z,i0] at q; cases q)⟩;have htup:h2.get? s.heap.objs.size=some { cls:=.type "tuple",data:=.seq #[.int i s.toks,u] }:=(hs2'.2 _ (zBk helt)).trans hT;have I1:Inv X pins σ (upd H s.heap.objs.size (.tup [.int i,x])) { s with heap:=h2,gens:=s.gens,drawn:=s.drawn,toks:=s.toks+1 }:=by
   refine I.step (ch:=[e,it]) (fun b hb=>?_) (fun b o _ _ hb q _=>up b o (nch b hb).1 (nch b hb).2 q) (fun b o _ _ hb q _=>⟨o.slots,up b o (nch b hb).1 (nch b hb).2 q⟩) (fun b o _ q n=>by rw[Ar (zAu (zAq q))]; exact n)
    (fun b o hb q=>⟨o,up b o (nch b hb).1 (nch b hb).2 q⟩) (fun b xs q=>by rw[Ar (Ap q hnT)]; exact q) (fun b o u q=>by rw[Ar (Ap q hnT)]; exact q) (fun b ps q=>⟨#[],by rw[Ar (Ap q hnT),q]; simp⟩)
    (fun m hm=>?_) (fun b o q=>?_) I.bare
   ·rcases zAo.mp hb with rfl | hb
    ·exact⟨e3,e1,e4,e5⟩
    ·have eb:b=it:=by simpa using hb
     subst eb;exact⟨i3,i1,i4,i5⟩
   ·obtain⟨o,es,ep,hoL,r⟩:=hm
    exact⟨o,es,ep,up _ o (Ne.symm e1) (Ne.symm i1) hoL,r⟩
   ·by_cases hb:b=s.heap.objs.size
    ·subst hb
     rw[Ab] at q;cases q;exact⟨Ci (by show 2<=1000; decide),[.int i s.toks,u],.cons ⟨_,rfl⟩ (.cons ru .nil),_,htup,rfl,_,rfl⟩
    ·rw[Ar hb] at q
     refine (I.hok b o q).stay (fun c v hc2 q2=>?_) (fun c q2=>by rw[Ar (Ap q2 hnT)]; exact q2) (fun c xs q2=>by rw[Ar (Ap q2 hnT)]; exact q2);rcases hc2 with rfl | hc2
     ·exact up _ v (ntr _ _ q).1 (ntr _ _ q).2 q2
     ·exact up _ v (ntr _ _ hc2).1 (ntr _ _ hc2).2 q2
  refine⟨.ref s.heap.objs.size,_,I1,rfl,⟨_,x,rfl,hnT,fun ys hy=>by rw[I.list_inj hy hq]; exact hx,rfl⟩,⟨⟨u,?_⟩,?_⟩,fun b hb=>?_⟩
  ·have ei:((i+1:Nat):Int)=(i:Int)+1:=by lia
   rw[ei];exact he2
  ·exact hit1.at fun o q=>(hs2'.2 it hei.symm).trans q
  ·have hbl:b<s.heap.objs.size:=by
    rcases zAo.mp hb with rfl | hb
    ·exact helt
    ·have eb:b=it:=by simpa using hb
     subst eb;obtain⟨o,q,_⟩:=hit;exact zAq q
   rw[Ar (zAu hbl)];exact (hf b hb).1
 done:=by
  intro X hP hw hK hc i pins s σ H E I hf st hg;subst hP hw hK;obtain⟨⟨old,he⟩,hit⟩:=st;obtain⟨xs,hq,hx⟩:=hg;obtain⟨its,rv,p,hz⟩:=I.list hq;obtain⟨i0,i1,i2,i3,i4,i5⟩:=hf it (by simp);have hl:=rv.length;exact wpAny_pyNext_enum_end (I.ok.hd hc) he hit p.isList (by simp; lia) fun h' eb=>⟨rfl,I.turned (t':=s.toks) (fun b o hb q=>eb b o hb q) i0 i1 i3 i4 i5⟩
 self:=fun _ _ _ _ _ st h=>by
  obtain⟨⟨old,he⟩,_⟩:=st;exact wpAny_pyIter_enum he h
def NT (K:zAa) (ta:TA):TI:=fun σ H R=>ta σ H fun vs H1=>∃ a,vs=[.ref a]/\(∃ xs,SqL K H1 a xs)/\R (LN K a) H1
theorem Ms {X:Cx} {a:Expr} {ta:TA} {p pos tp:Pos} {elts:List Expr} {k:Nat} (hg:Gl X "enumerate") (hm:X.mg "enumerate" = none) (ha:PA X [a] ta) (hs:starEach [a] X.env=[(false,eval a X.env)]:=by rfl) :
  PI X (.Tuple elts k tp) (.Call (.Name "enumerate" p) [a] [] pos) (NT X.K ta):=by
 intro pins s σ H R I h;refine Call_ (Hu I hg hm (show zCB "enumerate" = some (.type "enumerate") from rfl) (PyProof.Rows.callWith_type1 (Cs (ha pos pins s σ H _ I h) fun us s1 ⟨vs,H1,I1,r1,q1⟩=>?_) hs rfl));obtain⟨a,ev,⟨xs,hq⟩,q⟩:=q1;subst ev;obtain⟨u,rfl,rx⟩:=Ji r1;cases rx;obtain⟨its,rv,pl,hz⟩:=I1.list hq;refine call_enumerate_list pl.isList fun h' he hit hsz hk=>?_;refine wpAny_pyIter_enum he ?_;have I2:Inv X pins σ H1 { s1 with heap:=h' }:=I1.kept (t':=s1.toks) hk;refine⟨_,[s1.heap.objs.size+1,s1.heap.objs.size],_,_,H1,rfl,I2,X1 a _ _ (Nat.succ_ne_self _),⟨⟨_,he⟩,hit⟩,fun b hb=>?_,q⟩;rcases zAo.mp hb with rfl | hb
 ·exact I1.fpOk (zBl _) (I1.hok.fresh (zBl _))
 ·have eb:b=s1.heap.objs.size:=by simpa using hb
  subst eb;exact I1.fpOk (zAn _) (I1.hok.fresh (zAn _))
theorem V5 {X:Cx} {K:zAa} {es:List Expr} {k:Nat} {t:IC} {n:Nat} {pos:Pos} (hK:X.K=K) (hc:X.calm=true) (h:NN X es t)
  (hn:(assignEach es X.env).length=n:=by rfl) (hst:(assignEach es X.env).findIdx? (·.1)=none:=by rfl):PG X (.Tuple es k pos) (AR K n t):=hK▸Dw hc h hn hst
theorem Vz {K K':zAa} {a:Addr} {xs:List V} {tc:TT} {te:TE} {σ:St} {ix:List Nat} {QQ:Hp->Prop} {H1:Hp} {p:Addr} (Pv:Nat->List V->Hp->Prop) (h0:Pv 0 [] (upd H1 p (.lst [])))
  (hp:∀ i ys H,i<=xs.length->Pv i ys H->H p=some (.lst ys)/\ys.length<=i/\SqL K H a xs) (hn:xs.length<=sizeLine)
  (hs:∀ i x ys H t,xs[i]?=some x->Pv i ys H->H t=none->tc (some (.int i)::some x::Ga ix σ) (upd H t (.tup [.int i,x])) fun b H5=>if b=true then te (some (.int i)::some x::Ga ix σ) H5 fun y H6=>H6 p=some (.lst ys) /\
   (some (.int i)::some x::Ga ix σ)=(some (.int i)::some x::Ga ix σ)/\Pv (i+1) (ys++[y]) (upd H6 p (.lst (ys++[y]))) else (some (.int i)::some x::Ga ix σ)=(some (.int i)::some x::Ga ix σ)/\Pv (i+1) ys H5)
  (hd:∀ ys H,Pv xs.length ys H->QQ H) :
  D6 (AR K' 2 (Mv (Ey 0) (Mv (Ey 1) EJ))) tc te 2 ix σ (LN K a) p H1 QQ:=by
 refine⟨fun i m ys σ2 H2=>m=xs.length-i/\i<=xs.length/\(∃ o o',σ2=o::o'::Ga ix σ)/\Pv i ys H2,⟨xs.length,by simp,zAB _,⟨none,none,rfl⟩,h0⟩,?_⟩;rintro i m ys σ2 H2 ⟨rfl,hi,⟨o,o',rfl⟩,pv⟩;obtain⟨hp2,hl2,hq2⟩:=hp i ys H2 hi pv;refine⟨hp2,?_⟩;by_cases hlt:i<xs.length
 ·refine .inr ⟨⟨xs,xs[i],hq2,by simp [hlt]⟩,by lia,fun x H3 y=>?_⟩
  obtain⟨t,z,ex,ht,hz,e3⟩:=y;subst ex e3;refine⟨fun ys' σ' H'=>σ'=(some (.int i)::some z::Ga ix σ)/\Pv (i+1) ys' H',fun ys' σ' H' ⟨e,q⟩=>⟨xs.length-(i+1),by lia,rfl,hlt,⟨_,_,e⟩,q⟩,?_⟩;exact⟨t,_,rfl,SqT.of Ab,rfl,_,_,rfl,_,_,rfl,rfl,hs i z ys H2 t (hz xs hq2) pv ht⟩
 ·have e:i=xs.length:=by lia
  subst e;exact .inl ⟨⟨xs,hq2,zAn _⟩,hd ys H2 pv⟩
structure Iv (P:Program) (w:World) (K:zAa) (mg:Str->Option Value) (base:Heap) (k:Nat) (C:Addr) (m:Str) (ps:List Str) (sp:Sp):Prop where
 ex:∃ f fd,FnOk P w K mg base Cu k f fd ps sp/\Binds K fd ps []/\Ef K C m f
 cl:Cls K C
theorem Ed {X:Cx} {k:Nat} {C:Addr} {m:Str} {ps:List Str} {sp:Sp} {e o:Expr} {es:List Expr} {apos pos:Pos} {ta:TE} {t:TA} {pl:Sem Bool} (M:Iv X.prog X.w X.K X.mg X.base k C m ps sp) (hr:Room k X.A) (he:PE X o ta) (ha:PA X (e::es) t)
  (hst:starEach (e::es) X.env=(false,eval e X.env)::starEach es X.env:=by rfl) (hpl:(backTo pos (starEach es X.env)).any (·.1)=false:=by rfl)
  (ht:eval (.Call (.Attribute o m apos) (e::es) [] pos) X.env=(do
   let ov <- eval o X.env
   standAt apos.atName
   let (f,first) <- holding [ov] (getMethod ov m pl)
   callWith pos f first (backTo pos (starEach (e::es) X.env)) (backToKw pos (keywordEach [] X.env))):=by rfl) :
  PE X (.Call (.Attribute o m apos) (e::es) [] pos) (IU C m sp [] E0 ta t):=by
 obtain⟨f,fd,F,b,hm⟩:=M.ex;exact GL he M.cl hm F hr b .nil Vj ha hst hpl ht
structure Ek (P:Program) (w:World) (K:zAa) (mg:Str->Option Value) (base:Heap) (k:Nat) (x:Str) (C:Addr) (ps:List Str) (sp:Sp):Prop where
 ex:∃ f fd,Mk K C f/\FnOk P w K mg base Cu k f fd ps sp/\Binds K fd ps []/\mg x=some (.ref C)
theorem Do {X:Cx} {k:Nat} {x:Str} {C:Addr} {ps:List Str} {sp:Sp} {e:Expr} {es:List Expr} {p pos:Pos} {t:TA} (M:Ek X.prog X.w X.K X.mg X.base k x C ps sp) (hr:Room (k+1) X.A) (hg:Gl X x) (ha:PA X (e::es) t)
  (hdb:(x==("__debug__" : Str))=false:=by decide) (he:starEach (e::es) X.env=(false,eval e X.env)::starEach es X.env:=by rfl) (hpl:(backTo pos (starEach es X.env)).any (·.1)=false:=by rfl) :
  PE X (.Call (.Name x p) (e::es) [] pos) (W5 C sp [] E0 t):=by
 obtain⟨f,fd,mk,F,b,hm⟩:=M.ex;exact GT mk F hr hg hm b .nil Vj ha hdb he hpl
theorem LJ {X:Cx} (hc:X.calm=true):Gf X (.builtin "min") (fun xs H Q=>∃ p,∃ ns:List Int,xs=[.ref p]/\SqL X.K H p (ns.map V.int)/\ns≠[]/\∀ m∈ns,Q (.int m) H):=by
 intro pins s σ H xs us Q I r h;obtain⟨p,ns,rfl,hq,hne,q⟩:=h;obtain⟨u,rfl,rx⟩:=Ji r;cases rx;obtain⟨its,rv,pl,hz⟩:=I.list hq;have hi:IntsAre its ns:=Md rv;obtain⟨ys,ey⟩:=hi.allInts.items;have hl:s.heap.IsList p (intItems ys):=ey▸pl.isList;have lenI:its.length=ns.length:=hi.length;have hy:ys.size=ns.length:=by
  have z:=congrArg Array.size ey;rw[zAh] at z;unfold intItems at z;rw[Array.size_map] at z
  lia
 have hpos:0<ns.length:=List.length_pos_iff.mpr hne;refine min_intList (I.ok.hd hc) hl (by lia) fun v h' tk hv hk=>?_;rw[<- ey] at hv;have hv':∃ j,its[j]?=some v:=⟨_,by simpa using hv⟩;obtain⟨j,hj⟩:=hv';have hlt:j<ns.length:=by have:=(zAi.mp hj).1; lia
 obtain⟨u,hu,ru⟩:=rv.get (i:=j) (x:=.int ns[j]) (by rw[zAw,zAd hlt]; rfl);rw[hj] at hu;cases hu;exact⟨.int ns[j],H,I.kept hk,ru,q _ (zAZ _)⟩
section
variable {X:Cx} {pins:List (Addr×Obj)} {σ:St} {H H':Hp} {s:Shared} {h':Heap}
end
section
variable {X:Cx} {k:Nat} {f:Addr} {fd:zCC} {ps:List Str} {sp:Sp} {x:Str} {p pos:Pos} {e:Expr} {es:List Expr} {t:TA} {W:St->XK}
end
section
variable {X:Cx} {pins pins' pn:List (Addr×Obj)} {σ:St} {H:Hp} {s:Shared} {E:Value->Shared->Prop} {e:Addr}
end
section
variable {X:Cx} {x n:Str} {Ch:Addr} {i:Nat} {body suite:List Stmt} {b₀ : Stmt} {tb:(St->XK)->TS} {ts:TS} {np hpos pos:Pos}
end
structure IS (k:Nat) (A:Around):Prop where
 dp:A.depth+3*k+5<recursionLimit
 un:A.units+16*k+200<cLine
structure NO (P:Program) (w:World) (K:zAa) (mg:Str->Option Value) (base:Heap) (k:Nat) (f:Addr) (fd:zCC) (ps:List Str) (sp:Sp):Prop where
 len:∀ vs H Q E,sp vs H Q E->vs.length=ps.length
 run:∀ (A:Around) (outer:List Env) (s:Shared) (H:Hp) (args:Args) (us:List Value) (vs:List V) (Q:VK) (E:XK),IS k A->Env0 P w K mg base A outer s H->BindsTo s fd args (ps.zip us)->Vals vs us->sp vs H Q E ->
  codeAny (model P w) A (.call (.ref f) args) (CR Cu outer P w H s Q E) s
structure OG (P:Program) (w:World) (K:zAa) (mg:Str->Option Value) (base:Heap) (k:Nat) (x:Str) (ps:List Str) (sp:Sp):Prop where
 ex:∃ f fd,NO P w K mg base k f fd ps sp/\Binds K fd ps []/\zAP K (.ref f)=true/\mg x=some (.ref f)
section
variable {X:Cx} {k:Nat} {f:Addr} {fd:zCC} {ps:List Str} {sp:Sp} {x:Str} {p pos:Pos} {e:Expr} {es:List Expr} {t:TA}
theorem MO (C:OG X.prog X.w X.K X.mg X.base k x ps sp) (hr:IS k X.A) (hg:Gl X x) (ha:PA X (e::es) t)
  (hdb:(x==("__debug__" : Str))=false:=by decide) (he:starEach (e::es) X.env=(false,eval e X.env)::starEach es X.env:=by rfl) (hpl:(backTo pos (starEach es X.env)).any (·.1)=false:=by rfl) :
  PE X (.Call (.Name x p) (e::es) [] pos) (V7 sp [] E0 t):=by
 intro pins s σ H Q I h;obtain⟨f,fd,F,b,kp,hm⟩:=C.ex;refine wpAny_Call_Name_kw (Hd I hg hm ?_ hdb);refine zBG (h₀ := X.base) I.ok.mod.kin kp (Cs (ha pos pins s σ H _ I h) fun us s1 ⟨vs,H1,I1,r,q⟩=>⟨I1.kIn,?_⟩) he hpl;have q:sp vs H1 Q E0:=by
  have q':sp (vs++[]) H1 Q E0:=q;rw[zAY] at q';exact q'
 have hl:(us++[]).length=ps.length:=by rw[zAY,<- r.length]; exact F.len _ _ _ _ q
 have b':=b s1 us I1.kIn hl;rw[zAY] at b';refine wpAny_call (codeAny_mono (F.run X.A X.stack s1 H1 ⟨us,[]⟩ us vs Q E0 hr I1.env0 b' r q) fun y s' hq=>?_);cases y with
 | error v=>exact False.elim hq
 | ok fl=>
  cases fl with
  | ret u=>exact I1.after hq
  | next=>exact False.elim hq
  | brk=>exact False.elim hq
  | cont=>exact False.elim hq
end
def tx (l:List Nat):Str:=⟨l.toArray⟩
theorem Ft (l:List Nat):(tx l).length=l.length:=by simp [tx,Str.length]
theorem FL (x:Str):tx x.cps.toList=x:=by cases x; rfl
theorem Re (l m:List Nat):tx l++tx m=tx (l++m):=by
 show (⟨l.toArray++m.toArray⟩:Str)=⟨(l++m).toArray⟩;rw[List.append_toArray]
def Vf (c:Nat):List Nat->List (List Nat)
 | []=>[[]]
 | x::l=>if x=c then []::Vf c l else match Vf c l with
  | []=>[[x]]
  | p::r=>(x::p)::r
theorem NK (c:Nat):∀ l,Vf c l≠[]
 | []=>by simp [Vf]
 | x::l=>by
  unfold Vf
  split
  ·simp
  ·cases Vf c l <;> simp
section
variable {X:Cx}
theorem X0:Ko X (compareOp .NotIn) (fun x y H Q=>∃ c z,x = .str (tx [c])/\y = .str z/\Q (.bl (!decide (c∈z.cps.toList))) H):=by
 intro pins s σ H x y v u Q I rx ry h;obtain⟨c,z,rfl,rfl,q⟩:=h;refine Xj pins s σ H _ _ v u Q I rx ry ⟨tx [c],z,rfl,rfl,?_⟩;rw[show (!(Builtin.Str.occurrences z (tx [c]) 0 z.length 1).isEmpty)=decide (c∈z.cps.toList) from StrLaws.found_one z c];exact q
def LL (x:Str):It:=⟨fun i _=>i<x.cps.size,fun i H v H'=>H'=H/\∃ c,x.cps[i]?=some c/\v = .str (tx [c]),fun i _=>x.cps.size<=i⟩
theorem Y5 {P:Program} {w:World} {K:zAa} {tg:Expr} (x:Str) (t:Tok) (it:Addr):Wl P w K tg (LL x) [it] it (fun i h=>h.IsStrIter it "str_ascii_iterator" x t i) where
 mem:=by simp
 obj:=fun i h st b hb=>by
  have e:b=it:=by simpa using hb
  subst e;obtain⟨o,e,c,d⟩:=st;exact⟨o,e,fun v z=>by rw[d] at z; cases z⟩
 keep:=fun i h h' st k=>by
  obtain⟨o,e,c,d⟩:=st;exact⟨o,k it (by simp) o e,c,d⟩
 item:=by
  intro X hP hw hK hc i pins s σ H E I hf st hg;subst hP hw hK;obtain⟨f0,f1,f2,f3,f4,f5⟩:=hf it (by simp);have hi:i<x.cps.size:=hg;refine wpAny_pyNext_ascii_item st (c:=x.cps[i]) (by simp [hi]) fun h' st' sb=>?_;have I1:Inv X pins σ H { s with heap:=h',toks:=s.toks+1 }:=I.turned (fun b o hb e=>(sb.2 b hb).trans e) f0 f1 f3 f4 f5;obtain⟨o,e,c,d⟩:=id st';exact⟨_,rfl,R6 (s:={ s with heap:=h',toks:=s.toks+1 }) e c d (by decide) ⟨.str (tx [x.cps[i]]),H,I1,⟨_,rfl⟩,⟨rfl,_,by simp [hi],rfl⟩,st',fun b hb=>(hf b hb).1⟩⟩
 done:=by
  intro X hP hw hK hc i pins s σ H E I hf st hg;subst hP hw hK;obtain⟨f0,f1,f2,f3,f4,f5⟩:=hf it (by simp);have hi:x.cps.size<=i:=hg;exact wpAny_pyNext_ascii_end (I.ok.hd hc) st (by simp; lia) fun h' eb=>⟨rfl,I.turned (t':=s.toks) (fun b o hb e=>eb b o hb e) f0 f1 f3 f4 f5⟩
 self:=fun _ _ _ _ _ st h=>wpAny_pyIter_striter_ascii st h
theorem X6 {P:Program} {w:World} {K:zAa} {tg:Expr} (x:Str) (t:Tok) (it:Addr):Wl P w K tg (LL x) [it] it (fun i h=>h.IsStrIter it "str_iterator" x t i) where
 mem:=by simp
 obj:=fun i h st b hb=>by
  have e:b=it:=by simpa using hb
  subst e;obtain⟨o,e,c,d⟩:=st;exact⟨o,e,fun v z=>by rw[d] at z; cases z⟩
 keep:=fun i h h' st k=>by
  obtain⟨o,e,c,d⟩:=st;exact⟨o,k it (by simp) o e,c,d⟩
 item:=by
  intro X hP hw hK hc i pins s σ H E I hf st hg;subst hP hw hK;obtain⟨f0,f1,f2,f3,f4,f5⟩:=hf it (by simp);have hi:i<x.cps.size:=hg;refine wpAny_pyNext_wide_item st (c:=x.cps[i]) (by simp [hi]) fun h' st' sb=>?_;have I1:Inv X pins σ H { s with heap:=h',toks:=s.toks+1 }:=I.turned (fun b o hb e=>(sb.2 b hb).trans e) f0 f1 f3 f4 f5;obtain⟨o,e,c,d⟩:=id st';exact⟨_,rfl,R6 (s:={ s with heap:=h',toks:=s.toks+1 }) e c d (by decide) ⟨.str (tx [x.cps[i]]),H,I1,⟨_,rfl⟩,⟨rfl,_,by simp [hi],rfl⟩,st',fun b hb=>(hf b hb).1⟩⟩
 done:=by
  intro X hP hw hK hc i pins s σ H E I hf st hg;subst hP hw hK;obtain⟨f0,f1,f2,f3,f4,f5⟩:=hf it (by simp);have hi:x.cps.size<=i:=hg;exact wpAny_pyNext_wide_end (I.ok.hd hc) st (by simp; lia) fun h' eb=>⟨rfl,I.turned (t':=s.toks) (fun b o hb e=>eb b o hb e) f0 f1 f3 f4 f5⟩
 self:=fun _ _ _ _ _ st h=>wpAny_pyIter_striter_wide st h
def PZ (tl:TE):TI:=fun σ H R=>tl σ H fun x H1=>∃ z,x = .str z/\R (LL z) H1
theorem KU {tg l:Expr} {tl:TE} (hl:PE X l tl):PI X tg l (PZ tl):=by
 intro pins s σ H R I h;refine Cs (hl pins s σ H _ I h) fun v s1 ⟨x,H1,I1,r1,q1⟩=>?_;obtain⟨z,e,q⟩:=q1;subst e;obtain⟨t,rfl⟩:=r1;have fp:∀ b∈[s1.heap.objs.size],Np X pins H1 b:=fun b hb=>by
  have e:b=s1.heap.objs.size:=by simpa using hb
  subst e;exact I1.fpOk (zAn _) (I1.hok.fresh (zAn _))
 cases ha:z.cps.all (· < 128) with
 | true=>exact wpAny_pyIter_ascii ha ⟨s1.heap.objs.size,[s1.heap.objs.size],_,_,H1,rfl,I1.kept (t':=s1.toks) fun b o e=>zAe _ e,Y5 z t _,⟨_,zAt _ rfl,rfl,rfl⟩,fp,q⟩
 | false=>exact wpAny_pyIter_wide ha ⟨s1.heap.objs.size,[s1.heap.objs.size],_,_,H1,rfl,I1.kept (t':=s1.toks) fun b o e=>zAe _ e,X6 z t _,⟨_,zAt _ rfl,rfl,rfl⟩,fp,q⟩
theorem FZ {l:List Nat} {g:TG} {tb:TS} {D:Nj} {σ:St} {H:Hp} (Pv:Nat->St->Hp->Prop) (h0:Pv 0 σ H)
  (hs:∀ i c σ H,l[i]?=some c->Pv i σ H->g (.str (tx [c])) σ H fun σ2 H2=>tb { D with nx:=Pv (i+1),ct:=Pv (i+1),bk:=D.nx } σ2 H2) (hd:∀ σ H,Pv l.length σ H->D.nx σ H) :
  ∃ W:Nat->Nat->St->Hp->Prop,(∃ m,W 0 m σ H)/\∀ i m σ H,W i m σ H ->
   ((LL (tx l)).stop i H/\D.nx σ H)\/((LL (tx l)).go i H/\∃ N:St->Hp->Prop,(∀ σ' H',N σ' H'->∃ m',m'<m/\W (i+1) m' σ' H')/\∀ x H',(LL (tx l)).yld i H x H'->g x σ H' fun σ2 H2=>tb { D with nx:=N,ct:=N,bk:=D.nx } σ2 H2):=by
 have hz:(tx l).cps.size=l.length:=by simp [tx]
 refine⟨fun i m σ H=>m=l.length-i/\i<=l.length/\Pv i σ H,⟨l.length,by simp,zAB _,h0⟩,?_⟩;rintro i m σ H ⟨rfl,hi,p⟩;by_cases hlt:i<l.length
 ·refine .inr ⟨by show i<(tx l).cps.size; lia,Pv (i+1),fun σ' H' p'=>⟨l.length-(i+1),by lia,rfl,hlt,p'⟩,fun x H' y=>?_⟩
  obtain⟨e,c,hc,y⟩:=y;subst e y;exact hs i c σ _ (by simpa [tx] using hc) p
 ·have e:i=l.length:=by lia
  subst e;exact .inl ⟨by show (tx l).cps.size<=l.length; lia,hd σ H p⟩
end
section
variable {prog:Program} {w:World} {A:Around} {E:Value->Shared->Prop} {K:zAa} {x D:Addr} {ox:Obj} {od:Option Obj}
end
section
variable {X:Cx} {k:Nat} {f C:Addr} {fd:zCC} {ps:List Str} {sp:Sp} {x:Str} {p pos:Pos} {e:Expr} {es:List Expr} {t:TA} {W:St->XK}
end
section
variable {X:Cx} {x:Str} {C f:Addr} {p pos:Pos} {e:Expr} {es:List Expr} {t:TA}
end
section
variable {prog:Program} {w:World} {A:Around} {Ex:Value->Shared->Prop} {hp:Heap} {gs:Array GenState} {dr:Drawn} {tk:Nat} {os:OsState}
variable {nm q:Str} {C N fI:Addr} {bs bm bmB:List Value} {hdct:Bool} {sn:List Str} {sub:List Value} {ab:Bool} {col:Option Bool} {dd:Option Addr} {k0 k1 k2 k3 k5:Option Value} {B newId initId:String} {mN:Str->Option Value} {us:List Value} {oI:Obj}
theorem Uu {Q:Fin->Shared->Prop} (FB:ExcBaseFacts B newId initId bmB) (T:OwnTail hp bmB bm) (cO:hp.get? C=some (excClassObj nm q C N bs bm hdct sn sub ab col dd k0 k1 k2 k3 k5 newId)) (nN:hp.Ns N mN)
  (iN:mN "__init__" = some (.ref fI)) (fO:hp.get? fI=some oI) (fC:oI.cls = .type "function") (sz:us.length<=sizeLine)
  (k:∀ h1 e,Heap.MadeExcOf hp h1 e (.ref C) us->wpAny (model prog w) A (call (.ref fI) (.ref e::us)) (fun r s1=>r = .none/\Q (.done (.ret (.ref e))) s1) Ex ⟨h1,gs,dr,tk,os⟩) :
  wpAny (model prog w) A (Builtin.«type.__call__» ⟨.ref C::us,[]⟩) Q Ex ⟨hp,gs,dr,tk,os⟩:=by
 repeat (first | with_reducible refine wpAny_loadPart_at cO ?_ | with_reducible refine wpAny_madeBy_exc cO ?_ | wp_step)
 refine codeAny_call_builtin_code (Code.quiet_builtin _ FB.quiet) (wpAny_check_new_subT FB T cO (codeAny_exc_new_subT FB T cO ?_ sz));show wpAny _ _ _ _ _ _;have keep:∀ b o,hp.get? b=some o->((hp.push { cls:=.type "tuple",data:=.seq us.toArray }).push { cls:=.ref C,data:=.fields #[.ref hp.objs.size,.none,.none,.none,.bool false,.none] }).get? b=some o:=
  fun b o z=>zAe _ (zAe _ z)
 have cO1:=keep _ _ cO;have new:((hp.push { cls:=.type "tuple",data:=.seq us.toArray }).push { cls:=.ref C,data:=.fields #[.ref hp.objs.size,.none,.none,.none,.bool false,.none] }).get? (hp.objs.size+1)
   = some { cls:=.ref C,data:=.fields #[.ref hp.objs.size,.none,.none,.none,.bool false,.none] }:=by heap_get
 have inC:(Value.ref C::bm).contains (.ref C)=true:=by simp
 unfold isInstance
 repeat (first | with_reducible refine wpAny_loadPart_at new ?_ | (with_reducible refine wpAny_isSubtype_exc cO1 ?_; rw[inC]) | wp_step)
 show wpAny _ _ (typeLookup (.ref C) _) _ _ _;refine wpAny_typeLookup_tail cO1 (nN.keeps keep) (T.keeps keep) FB.mroIs FB.init.lookup ?_;rw[iN];refine wpAny_holding (zCy ?_);unfold bindSpecial;refine zCy (wpAny_typeOf (T := "function") ⟨_,keep _ _ fO,fC⟩ ?_);rw[if_pos (by decide)];refine zCz (zCy (wpAny_mono (k _ (hp.objs.size+1) ⟨keep,Heap.get?_none_of_le (zBl _),hp.objs.size,new,Heap.get?_none_of_le (zAn _),?_⟩) (fun r s1 hr=>?_) fun _ _ z=>z))
 ·exact zAe _ (Heap.get?_push_at rfl rfl)
 ·obtain⟨rfl,hQ⟩:=hr
  wp_walk
  exact hQ
theorem MS {Q:Value->Shared->Prop} (FB:ExcBaseFacts B newId initId bmB) (T:OwnTail hp bmB bm) (cO:hp.get? C=some (excClassObj nm q C N bs bm hdct sn sub ab col dd k0 k1 k2 k3 k5 newId)) (nN:hp.Ns N mN)
  (iN:mN "__init__" = some (.ref fI)) (fO:hp.get? fI=some oI) (fC:oI.cls = .type "function") (sz:us.length<=sizeLine)
  (k:∀ h1 e,Heap.MadeExcOf hp h1 e (.ref C) us->wpAny (model prog w) (A.under (.builtin "type.__call__" ⟨.ref C::us,[]⟩)) (call (.ref fI) (.ref e::us)) (fun r s1=>r = .none/\Q (.ref e) s1) Ex ⟨h1,gs,dr,tk,os⟩) :
  wpAny (model prog w) A (call (.ref C) us) Q Ex ⟨hp,gs,dr,tk,os⟩:=by
 have l1:=tc_lookup;have l2:=tc_bind (.ref C);have isT:(⟨hp,gs,dr,tk,os⟩:Shared).TypeIs (.ref C) "type" := ⟨_,cO,rfl⟩;refine wpAny_call (codeAny_of_tree ?_);show wpAny _ _ (callAny (.ref C) _) _ _ _
 repeat (any_goals (first | assumption | with_reducible refine wpAny_loadPart_at cO ?_ | wp_step))
 refine⟨rfl,codeAny_call_builtin_at (Code.quiet_builtin _ (by ac_nf)) entry_typeCall (wpAny_check_type_call_sub cO (Uu FB T cO nN iN fO fC sz fun h1 e m=>?_))⟩;exact k h1 e m
end
section
variable {prog:Program} {w:World} {A:Around} {E:Value->Shared->Prop} {K:zAa} {x D:Addr} {ox:Obj} {od:Option Obj}
end
section
variable {X:Cx} {pins:List (Addr×Obj)} {σ:St} {H:Hp} {s:Shared} {e:Addr}
end
section
variable {X:Cx} {x f:Str} {C g:Addr} {p pos apos:Pos} {e o value:Expr} {es:List Expr} {t:TA} {ta tv:TE}
end
section
variable {X:Cx}
end
inductive D where
 | at (v:V)
 | seq (t:Bool) (ds:List D)
mutual
def Vv (K:zAa) (H:Hp):D->V->Prop
 | .at v,x=>x=v/\Ew v=true
 | .seq t ds,x=>∃ a xs,x = .ref a/\(t=true->SqT K H a xs)/\(t=false->SqL K H a xs)/\Reps K H ds xs
def Reps (K:zAa) (H:Hp):List D->List V->Prop
 | [],xs=>xs=[]
 | d::ds,xs=>∃ y ys,xs=y::ys/\Vv K H d y/\Reps K H ds ys
end
mutual
def BV:D->D->Bool
 | .at v,.at u=>Wc v u
 | .seq t ds,.seq u es=>t==u&&eqDs ds es
 | _,_=>false
def eqDs:List D->List D->Bool
 | [],[]=>true
 | d::ds,e::es=>BV d e&&eqDs ds es
 | _,_=>false
end
mutual
def LY:D->Nat
 | .at _=>0
 | .seq _ ds=>deps ds+1
def deps:List D->Nat
 | []=>0
 | d::ds=>max (LY d) (deps ds)
end
theorem Reps.len {K:zAa} {H:Hp}:∀ {ds:List D} {xs:List V},Reps K H ds xs->ds.length=xs.length
 | [],xs,h=>by unfold Reps at h; subst h; rfl
 | d::ds,xs,h=>by
  unfold Reps at h;obtain⟨y,ys,rfl,_,h⟩:=h;rw[zAf,zAf,Reps.len h]
def NQ (ds es:List D) (j:Nat):Bool:=match ds[j]?,es[j]? with
 | some d,some e=>BV d e
 | _,_=>true
theorem Qx:∀ {ds es:List D},ds.length≠es.length->eqDs ds es=false
 | [],[],h=>absurd rfl h
 | [],_::_,_=>by unfold eqDs; rfl
 | _::_,[],_=>by unfold eqDs; rfl
 | d::ds,e::es,h=>by
  unfold eqDs;rw[Qx (ds:=ds) (es:=es) fun q=>h (by rw[zAf,zAf,q]),zCm]
theorem Ri:∀ {ds es:List D},ds.length=es.length->(zAI ds.length).all (NQ ds es)=eqDs ds es
 | [],[],_=>by unfold eqDs; rfl
 | [],_::_,h=>by simp at h
 | _::_,[],h=>by simp at h
 | d::ds,e::es,h=>by
  have ih:=Ri (ds:=ds) (es:=es) (by simpa using h);unfold eqDs;rw[zAf,List.range_succ_eq_map,zCu,List.all_map,<- ih];rfl
theorem BC {v:V} (h:Ew v=true):Wc v v=true:=by
 cases v <;> first | exact absurd (show false=true from h) zAl | rfl | simp [Wc]
section
variable {X:Cx} {pins:List (Addr×Obj)} {σ:St} {H:Hp} {s:Shared}
theorem Zg {a:Addr} {xs ys:List V} (I:Inv X pins σ H s) (h1:SqL X.K H a xs) (h2:SqT X.K H a ys):False:=by
 obtain⟨its,_,p,_⟩:=I.list h1;obtain⟨js,_,q,_⟩:=I.tuple h2;exact SeqAt.ne_of_list_tuple p.isList q rfl
mutual
theorem D2 (I:Inv X pins σ H s):∀ (d e:D) (x:V),Vv X.K H d x->Vv X.K H e x->BV d e=true
 | .at v,.at u,x,h1,h2=>by
  unfold Vv at h1 h2;obtain⟨rfl,f⟩:=h1;obtain⟨rfl,_⟩:=h2;unfold BV;exact BC f
 | .at v,.seq t ds,x,h1,h2=>by
  unfold Vv at h1 h2;obtain⟨rfl,f⟩:=h1;obtain⟨a,xs,rfl,_⟩:=h2;exact absurd (show false=true from f) zAl
 | .seq t ds,.at u,x,h1,h2=>by
  unfold Vv at h1 h2;obtain⟨rfl,f⟩:=h2;obtain⟨a,xs,rfl,_⟩:=h1;exact absurd (show false=true from f) zAl
 | .seq t ds,.seq u es,x,h1,h2=>by
  unfold Vv at h1 h2;obtain⟨a,xs,rfl,t1,l1,r1⟩:=h1;obtain⟨b,ys,e,t2,l2,r2⟩:=h2;cases e;unfold BV;cases t with
  | true=>
   cases u with
   | true=>
    have e:=I.tuple_inj (t1 rfl) (t2 rfl);subst e;rw[reps_same I ds es xs r1 r2];rfl
   | false=>exact (Zg I (l2 rfl) (t1 rfl)).elim
  | false=>
   cases u with
   | true=>exact (Zg I (l1 rfl) (t2 rfl)).elim
   | false=>
    have e:=I.list_inj (l1 rfl) (l2 rfl);subst e;rw[reps_same I ds es xs r1 r2];rfl
theorem reps_same (I:Inv X pins σ H s):∀ (ds es:List D) (xs:List V),Reps X.K H ds xs->Reps X.K H es xs->eqDs ds es=true
 | [],[],_,_,_=>by unfold eqDs; rfl
 | [],e::es,xs,h1,h2=>by
  unfold Reps at h1 h2;subst h1;obtain⟨_,_,e,_⟩:=h2;cases e
 | d::ds,[],xs,h1,h2=>by
  unfold Reps at h1 h2;subst h2;obtain⟨_,_,e,_⟩:=h1;cases e
 | d::ds,e::es,xs,h1,h2=>by
  unfold Reps at h1 h2;obtain⟨y,ys,rfl,h1,r1⟩:=h1;obtain⟨z,zs,e,h2,r2⟩:=h2;cases e;unfold eqDs;rw[D2 I d _ y h1 h2,reps_same I ds es ys r1 r2];rfl
end
theorem Y2 {A:Around} {v:V} {u:Value} {a:Addr} {its:Array Value} (f:Ew v=true) (r:RelV v u) (p:s.heap.IsList a its) (hu:A.units<cLine):SeqAt.EqAt A s u (.ref a) false:=by
 cases v with
 | non=>cases r; exact .none_list p hu
 | bl b=>cases r; exact .bool_list b p hu
 | int i=>obtain⟨t,rfl⟩:=r; exact .int_list i t p hu
 | str i=>obtain⟨t,rfl⟩:=r; exact .str_list i t p hu
 | _=>exact absurd (show false=true from f) zAl
theorem EV {A:Around} {v:V} {u:Value} {a:Addr} {its:Array Value} (f:Ew v=true) (r:RelV v u) (p:s.heap.IsTuple a its) (hu:A.units<cLine):SeqAt.EqAt A s u (.ref a) false:=by
 cases v with
 | non=>cases r; exact .none_tuple p hu
 | bl b=>cases r; exact .bool_tuple b p hu
 | int i=>obtain⟨t,rfl⟩:=r; exact .int_tuple i t p hu
 | str i=>obtain⟨t,rfl⟩:=r; exact .str_tuple i t p hu
 | _=>exact absurd (show false=true from f) zAl
theorem X9 {A:Around} {v:V} {u:Value} {a:Addr} {its:Array Value} (f:Ew v=true) (r:RelV v u) (p:s.heap.IsList a its) (hu:A.units<cLine):SeqAt.EqAt A s (.ref a) u false:=by
 cases v with
 | non=>cases r; exact .list_none p hu
 | bl b=>cases r; exact .list_bool b p hu
 | int i=>obtain⟨t,rfl⟩:=r; exact .list_int i t p hu
 | str i=>obtain⟨t,rfl⟩:=r; exact .list_str i t p hu
 | _=>exact absurd (show false=true from f) zAl
theorem FA {A:Around} {v:V} {u:Value} {a:Addr} {its:Array Value} (f:Ew v=true) (r:RelV v u) (p:s.heap.IsTuple a its) (hu:A.units<cLine):SeqAt.EqAt A s (.ref a) u false:=by
 cases v with
 | non=>cases r; exact .tuple_none p hu
 | bl b=>cases r; exact .tuple_bool b p hu
 | int i=>obtain⟨t,rfl⟩:=r; exact .tuple_int i t p hu
 | str i=>obtain⟨t,rfl⟩:=r; exact .tuple_str i t p hu
 | _=>exact absurd (show false=true from f) zAl
theorem Q1 {A:Around} {its js:List Value} {e:Nat->Bool} (h:∀ j u v,its[j]?=some u->js[j]?=some v->SeqAt.EqAt A s u v (e j)):∀ j (h1:j<its.toArray.size) (h2:j<js.toArray.size),SeqAt.EqAt A s its.toArray[j] js.toArray[j] (e j):=fun j h1 h2=>by
 rw[zAh] at h1 h2;rw[zBZ,zBZ];exact h j _ _ (zAd h1) (zAd h2)
theorem A3 {A:Around} {a b:Addr} {xs ys:List V} {ds es:List D} (I:Inv X pins σ H s) (hu:A.units<cLine) (h1:SqL X.K H a xs) (h2:SqL X.K H b ys) (r1:Reps X.K H ds xs) (r2:Reps X.K H es ys)
  (h:∀ its js,Vals xs its->Vals ys js->∀ j u v,its[j]?=some u->js[j]?=some v->SeqAt.EqAt A.in1 s u v (NQ ds es j)):SeqAt.RcAt A s (.ref a) (.ref b) (eqDs ds es)/\SeqAt.RcNeAt A s (.ref a) (.ref b) (!eqDs ds es):=by
 obtain⟨its,q1,p1,z1⟩:=I.list h1;obtain⟨js,q2,p2,z2⟩:=I.list h2;have l1:=q1.length;have l2:=q2.length;have m1:=r1.len;have m2:=r2.len;by_cases hl:ds.length=es.length
 ·rw[<- Ri hl,show ds.length=its.toArray.size by rw[zAh]; lia]
  have hz:its.toArray.size=js.toArray.size:=by rw[zAh,zAh]; lia
  exact⟨SeqAt.RcAt.lists p1.isList p2.isList hz hu (Q1 (h its js q1 q2)),SeqAt.RcNeAt.lists p1.isList p2.isList hz hu (Q1 (h its js q1 q2))⟩
 ·rw[Qx hl]
  have hz:(its.toArray.size != js.toArray.size)=true:=by simp only [zAh,bne_iff_ne,ne_eq]; lia
  exact⟨SeqAt.RcAt.lists_lengths p1.isList p2.isList hz hu,SeqAt.RcNeAt.lists_lengths p1.isList p2.isList hz hu⟩
theorem W0 {A:Around} {a b:Addr} {xs ys:List V} {ds es:List D} (I:Inv X pins σ H s) (hu:A.units<cLine) (h1:SqT X.K H a xs) (h2:SqT X.K H b ys) (r1:Reps X.K H ds xs) (r2:Reps X.K H es ys)
  (h:∀ its js,Vals xs its->Vals ys js->∀ j u v,its[j]?=some u->js[j]?=some v->SeqAt.EqAt A.in1 s u v (NQ ds es j)):SeqAt.RcAt A s (.ref a) (.ref b) (eqDs ds es)/\SeqAt.RcNeAt A s (.ref a) (.ref b) (!eqDs ds es):=by
 obtain⟨its,q1,p1,z1⟩:=I.tuple h1;obtain⟨js,q2,p2,z2⟩:=I.tuple h2;have l1:=q1.length;have l2:=q2.length;have m1:=r1.len;have m2:=r2.len;have e:((zAI (min its.toArray.size js.toArray.size)).all (NQ ds es)&&its.toArray.size==js.toArray.size)=eqDs ds es:=by
  rw[zAh,zAh];by_cases hl:ds.length=es.length
  ·rw[<- Ri hl,show min its.length js.length=ds.length by lia,show its.length=js.length by lia]
   simp
  ·rw[Qx hl]
   have:(its.length==js.length)=false:=by simp; lia
   rw[this,zCm]
 rw[<- e];exact⟨SeqAt.RcAt.tuples p1 p2 hu (Q1 (h its js q1 q2)),SeqAt.RcNeAt.tuples p1 p2 hu (Q1 (h its js q1 q2))⟩
mutual
theorem JO (I:Inv X pins σ H s):∀ (d e:D) (A:Around) (x y:V) (u v:Value),A.units+LY d+LY e<cLine->Vv X.K H d x->Vv X.K H e y->RelV x u->RelV y v->SeqAt.EqAt A s u v (BV d e)
 | .at a,.at b,A,x,y,u,v,hu,h1,h2,ru,rv=>by
  unfold Vv at h1 h2;obtain⟨rfl,f⟩:=h1;obtain⟨rfl,g⟩:=h2;unfold BV;exact L9 ru rv f g
 | .at a,.seq t es,A,x,y,u,v,hu,h1,h2,ru,rv=>by
  unfold Vv at h1 h2;obtain⟨rfl,f⟩:=h1;obtain⟨b,ys,rfl,t2,l2,_⟩:=h2;cases rv;unfold BV;cases t with
  | true=>obtain⟨_,_,p,_⟩:=I.tuple (t2 rfl); exact EV f ru p (by lia)
  | false=>obtain⟨_,_,p,_⟩:=I.list (l2 rfl); exact Y2 f ru p.isList (by lia)
 | .seq t ds,.at b,A,x,y,u,v,hu,h1,h2,ru,rv=>by
  unfold Vv at h1 h2;obtain⟨rfl,f⟩:=h2;obtain⟨a,xs,rfl,t1,l1,_⟩:=h1;cases ru;unfold BV;cases t with
  | true=>obtain⟨_,_,p,_⟩:=I.tuple (t1 rfl); exact FA f rv p (by lia)
  | false=>obtain⟨_,_,p,_⟩:=I.list (l1 rfl); exact X9 f rv p.isList (by lia)
 | .seq t ds,.seq t' es,A,x,y,u,v,hu,h1,h2,ru,rv=>by
  have k1:=h1;have k2:=h2;unfold Vv at h1 h2;obtain⟨a,xs,rfl,t1,l1,r1⟩:=h1;obtain⟨b,ys,rfl,t2,l2,r2⟩:=h2;cases ru;cases rv;unfold LY at hu;have hu':A.in1.units+deps ds+deps es<cLine:=by rw[Around.in1_units]; lia
  have hu0:A.units<cLine:=by lia
  by_cases hab:a=b
  ·subst hab
   rw[D2 I _ _ _ k1 k2];exact .same _
  ·unfold BV
   cases t with
   | true=>
    cases t' with
    | true=>exact .of_refs hab (W0 I hu0 (t1 rfl) (t2 rfl) r1 r2 (reps_at I ds es A.in1 xs ys hu' r1 r2)).1
    | false=>
     obtain⟨_,_,p,_⟩:=I.tuple (t1 rfl);obtain⟨_,_,q,_⟩:=I.list (l2 rfl);exact .tuple_list p q.isList hu0
   | false=>
    cases t' with
    | true=>
     obtain⟨_,_,p,_⟩:=I.list (l1 rfl);obtain⟨_,_,q,_⟩:=I.tuple (t2 rfl);exact .list_tuple p.isList q hu0
    | false=>exact .of_refs hab (A3 I hu0 (l1 rfl) (l2 rfl) r1 r2 (reps_at I ds es A.in1 xs ys hu' r1 r2)).1
theorem reps_at (I:Inv X pins σ H s):∀ (ds es:List D) (A:Around) (xs ys:List V),A.units+deps ds+deps es<cLine->Reps X.K H ds xs->Reps X.K H es ys ->
  ∀ its js,Vals xs its->Vals ys js->∀ j u v,its[j]?=some u->js[j]?=some v->SeqAt.EqAt A s u v (NQ ds es j)
 | [],es,A,xs,ys,hu,h1,h2,its,js,q1,q2,j,u,v,e1,e2=>by
  unfold Reps at h1;subst h1;cases q1;simp at e1
 | d::ds,[],A,xs,ys,hu,h1,h2,its,js,q1,q2,j,u,v,e1,e2=>by
  unfold Reps at h2;subst h2;cases q2;simp at e2
 | d::ds,e::es,A,xs,ys,hu,h1,h2,its,js,q1,q2,j,u,v,e1,e2=>by
  unfold Reps at h1 h2;obtain⟨y,ys',rfl,k1,r1⟩:=h1;obtain⟨z,zs',rfl,k2,r2⟩:=h2;unfold deps at hu;cases q1 with
  | cons ru t1=>
   cases q2 with
   | cons rv t2=>
    cases j with
    | zero=>
     simp only [List.getElem?_cons_zero,Option.some.injEq] at e1 e2;subst e1 e2;exact JO I d e A y z _ _ (by lia) k1 k2 ru rv
    | succ j=>
     simp only [List.getElem?_cons_succ] at e1 e2;exact reps_at I ds es A ys' zs' (by lia) r1 r2 _ _ t1 t2 j u v e1 e2
end
end
section
variable {X:Cx}
def MG (K:zAa) (neg:Bool):R2:=fun x y H Q=>∃ t ds es,Vv K H (.seq t ds) x/\Vv K H (.seq t es) y/\deps ds+deps es<=40/\Q (.bl (if neg then !eqDs ds es else eqDs ds es)) H
theorem PK {X:Cx} (neg:Bool) (hu:X.A.units+64<cLine):Ko X (compareOp (if neg then .NotEq else .Eq)) (MG X.K neg):=by
 intro pins s σ H x y v u Q I rx ry h;obtain⟨t,ds,es,h1,h2,hd,q⟩:=h;unfold Vv at h1 h2;obtain⟨a,xs,rfl,t1,l1,r1⟩:=h1;obtain⟨b,ys,rfl,t2,l2,r2⟩:=h2;cases rx;cases ry;have hu':X.A.in1.units+deps ds+deps es<cLine:=by rw[Around.in1_units]; lia
 have hu0:X.A.units<cLine:=by lia
 have z:SeqAt.RcAt X.A s (.ref a) (.ref b) (eqDs ds es)/\SeqAt.RcNeAt X.A s (.ref a) (.ref b) (!eqDs ds es):=by
  cases t with
  | true=>exact W0 I hu0 (t1 rfl) (t2 rfl) r1 r2 (reps_at I ds es X.A.in1 xs ys hu' r1 r2)
  | false=>exact A3 I hu0 (l1 rfl) (l2 rfl) r1 r2 (reps_at I ds es X.A.in1 xs ys hu' r1 r2)
 cases neg with
 | true=>exact z.2 X.prog X.w _ _ ⟨.bl (!eqDs ds es),H,I,rfl,q⟩
 | false=>exact z.1 X.prog X.w _ _ ⟨.bl (eqDs ds es),H,I,rfl,q⟩
theorem U0 {k:Nat} {A:Around} (hr:Room k A):A.units+64<cLine:=hr.units
theorem Ee {K:zAa} (h:X.K=K):LO X (MV K):=h▸Bp
end
structure DO (K:zAa) (B:Addr) (m:Str) (f:Addr):Prop where
 ga:zCq K (.ref B) "__getattribute__" = some (some (.builtin "type.__getattribute__"))
 rd:PySem.W.readsIn K B (.type "type")=true
 fc:PySem.W.findCls K (.ref B) (.type "type") m=some (.val (.ref f))
 kp:zAP K (.ref f)=true
section
variable {X:Cx} {k:Nat} {m x:Str} {ps:List Str} {sp:Sp} {e:Expr} {es:List Expr} {p apos pos:Pos} {t:TA} {W:St->XK}
theorem D5 {A:Around} {E:Value->Shared->Prop} {pins:List (Addr×Obj)} {σ:St} {H:Hp} {s:Shared} {B g:Addr} {pl:Sem Bool} {Q:Value×List Value->Shared->Prop} (I:Inv X pins σ H s) (Z:DO X.K B m g) (h:Q (.ref g,[]) { s with toks:=s.toks+1 }) :
  wpAny (model X.prog X.w) A (getMethod (.ref B) m pl) Q E s:=PySem.W.method_cls I.kIn Z.ga (PySem.W.cls_value I.kIn Z.rd Z.fc rfl h)
structure EG (P:Program) (w:World) (K:zAa) (mg:Str->Option Value) (base:Heap) (k:Nat) (x m:Str) (ps:List Str) (sp:Sp):Prop where
 ex:∃ B f fd,FnOk P w K mg base Cu k f fd ps sp/\Binds K fd ps []/\DO K B m f/\mg x=some (.ref B)
theorem Rq {pl:Sem Bool} (C:EG X.prog X.w X.K X.mg X.base k x m ps sp) (hr:Room k X.A) (hg:Gl X x) (ha:PA X (e::es) t) (hdb:(x==("__debug__" : Str))=false:=by decide)
  (hst:starEach (e::es) X.env=(false,eval e X.env)::starEach es X.env:=by rfl) (hpl:(backTo pos (starEach es X.env)).any (·.1)=false:=by rfl)
  (ht:eval (.Call (.Attribute (.Name x p) m apos) (e::es) [] pos) X.env=(do
   let ov <- eval (.Name x p) X.env
   standAt apos.atName
   let (f,first) <- holding [ov] (getMethod ov m pl)
   callWith pos f first (backTo pos (starEach (e::es) X.env)) (backToKw pos (keywordEach [] X.env))):=by rfl) :
  PE X (.Call (.Attribute (.Name x p) m apos) (e::es) [] pos) (V7 sp [] E0 t):=by
 intro pins s σ H Q I h;obtain⟨B,f,fd,F,b,Z,hm⟩:=C.ex;refine zBS (pl:=pl) (Hd I hg hm ?_ hdb) ht;refine D5 I Z ?_;have I':=I.tok (s.toks+1);refine zBG (first:=[]) (h₀ := X.base) I.ok.mod.kin Z.kp (Cs (ha pos pins _ σ H _ I' h) fun us s2 ⟨vs,H2,I2,r,q2⟩=>⟨I2.kIn,?_⟩) hst hpl;exact Ww (us:=us) (vs:=vs) F hr b .nil Vj I2 r q2
def JB (Fam:Addr->Prop) (m:Str) (sp:Addr->Sp) (ta:TE) (t:TA):TE:=fun σ H Q=>ta σ H fun x H1=>∃ a C dx fs,x = .ref a/\H1 a=some (.ins C dx fs)/\Fam C/\fs.lookup m=none/\t σ H1 fun vs H2=>sp C (.ref a::vs) H2 Q E0
structure Px (P:Program) (w:World) (K:zAa) (mg:Str->Option Value) (base:Heap) (k:Nat) (Fam:Addr->Prop) (m:Str) (ps:List Str) (sp:Addr->Sp):Prop where
 ex:∀ C,Fam C->Iv P w K mg base k C m ps (sp C)
theorem Gh {Fam:Addr->Prop} {spC:Addr->Sp} {o:Expr} {ta:TE} {pl:Sem Bool} (M:Px X.prog X.w X.K X.mg X.base k Fam m ps spC) (hr:Room k X.A) (he:PE X o ta) (ha:PA X (e::es) t)
  (hst:starEach (e::es) X.env=(false,eval e X.env)::starEach es X.env:=by rfl) (hpl:(backTo pos (starEach es X.env)).any (·.1)=false:=by rfl)
  (ht:eval (.Call (.Attribute o m apos) (e::es) [] pos) X.env=(do
   let ov <- eval o X.env
   standAt apos.atName
   let (f,first) <- holding [ov] (getMethod ov m pl)
   callWith pos f first (backTo pos (starEach (e::es) X.env)) (backToKw pos (keywordEach [] X.env))):=by rfl) :
  PE X (.Call (.Attribute o m apos) (e::es) [] pos) (JB Fam m spC ta t):=by
 intro pins s σ H Q I h;refine zBS (pl:=pl) (Cs (he pins s σ H _ I h) fun u s1 ⟨x,H1,I1,rx,a,C,dx,fs,ex,ea,hF,l,q⟩=>?_) ht;subst ex;obtain rfl:u=Value.ref a:=rx;obtain⟨f,fd,F,b,hm⟩:=(M.ex C hF).ex;refine Lp I1 ea (M.ex C hF).cl hm l ?_;refine zBG (first:=[.ref a]) (h₀ := X.base) I.ok.mod.kin hm.kp (Cs (ha pos pins s1 σ H1 _ I1 q) fun us s2 ⟨vs,H2,I2,r,q2⟩=>⟨I2.kIn,?_⟩) hst hpl;exact Ww (us:=.ref a::us) (vs:=.ref a::vs) F hr b .nil Vj I2 (.cons rfl r) (by rw[zAY]; exact q2)
end
def NS (K:zAa) (mg:Str->Option Value) (x:Str) (xs:List V):Prop:=∃ a,mg x=some (.ref a)/\∀ H,SqT K H a xs
theorem HS {X:Cx} {x:Str} {xs:List V} {pos:Pos} (h:NS X.K X.mg x xs) (hg:Gl X x) (hd:(x==("__debug__" : Str))=false:=by decide):PE X (.Name x pos) (fun _ H Q=>∀ a,SqT X.K H a xs->Q (.ref a) H):=by
 obtain⟨a,e,hs⟩:=h;exact fun _ _ _ H _ I q=>Hd I hg e ⟨.ref a,H,I,rfl,q a (hs H)⟩ hd
theorem OD {lo hi c:Int} (hc:0<c):0<=Builtin.Range.rangeSize lo hi c:=by
 unfold Builtin.Range.rangeSize;rw[if_pos hc]
 split
 ·have:=Int.ediv_nonneg (a:=hi-lo-1) (b:=c) (by lia) (by lia)
  lia
 ·lia
section
variable {X:Cx}
end
structure OH (K:zAa) (mg:Str->Option Value) (x:Str) (C:Addr):Prop where
 makes:zCh K C=true
 init:zAc K (.ref C) "__init__" = some (some (.builtin "object.__init__"))
 kp:zAP K (.ref C)=true
 at_:mg x=some (.ref C)
def OV (C:Addr):TE:=fun _ H Q=>∀ y dx,H y=none->H dx=none->dx≠y->Q (.ref y) (upd (upd H dx (.own y)) y (.ins C dx []))
theorem HN {X:Cx} {x:Str} {C:Addr} {p pos:Pos} (M:OH X.K X.mg x C) (hg:Gl X x) (hdb:(x==("__debug__" : Str))=false:=by decide):PE X (.Call (.Name x p) [] [] pos) (OV C):=by
 intro pins s σ H Q I h;refine wpAny_Call_Name_kw (Hd I hg M.at_ ?_ hdb);refine PySem.W.callWith_K0 I.kIn M.kp (wpAny_call (X4 I.kIn M.makes M.init (fun self=>PySem.W.Looks.of_pure (PySem.W.oi_bind self)) ?_));have hq:=h (s.heap.objs.size+1) s.heap.objs.size (I.hok.fresh (zBl _)) (I.hok.fresh (zAn _)) (zAu (zBB _));have I2:=Inv.made (C:=C) I;have Y:=PySem.W.makes_of (M:=model X.prog X.w) I.kIn M.makes;have ob:((s.heap.push zAO).push (zAX C s.heap.objs.size)).get? (s.heap.objs.size+1)=some (zAX C s.heap.objs.size):=by
  have e:(s.heap.push zAO).objs.size=s.heap.objs.size+1:=by rw[zBp]
  rw[<- e];exact zAt _ rfl
 have t1:PySem.W.Looks (model X.prog X.w) ((s.heap.push zAO).push (zAX C s.heap.objs.size)) (typeOf (.ref (s.heap.objs.size+1))) (.ref C):=(PySem.W.Looks.ld ob).andThen .now;have t2:PySem.W.Looks (model X.prog X.w) ((s.heap.push zAO).push (zAX C s.heap.objs.size)) (isInstance (.ref (s.heap.objs.size+1)) (.type "object")) true:=t1.andThen (Y.top.keeps fun b o e=>zAe _ (zAe _ e));obtain⟨hh,g,d,t,os⟩:=s;refine codeAny_call_builtin PySem.W.oi_plain PySem.W.entry_oi (@PySem.W.check_slot (model X.prog X.w) _ _ _ "object.__init__" "object" "__init__" (.ref (hh.objs.size+1)) [] [] _ PySem.W.oi_kind PySem.W.oi_split t2 (PySem.W.oi_args (.ref (hh.objs.size+1))) ?_);rw[PySem.W.oi_run];exact zCz (And.intro rfl ⟨V.ref (hh.objs.size+1),_,I2,rfl,hq⟩)
end L2
namespace CRS
open PySem PySem.W PyProof.Rows
def run {α:Type} (lt:Nat->Nat->Bool) (V:Nat->Prop):KasT α->(α->Prop)->Prop
 | .ret a,Q=>Q a
 | .ask i j k,Q=>V i/\V j/\run lt V (k (lt i j)) Q
section
variable {lt:Nat->Nat->Bool} {V:Nat->Prop}
theorem Ic {α β:Type} {f:α->KasT β} {Q:β->Prop}:∀ t:KasT α,run lt V t (fun a=>run lt V (f a) Q)->run lt V (t.bind f) Q
 | .ret a,h=>h
 | .ask i j k,⟨h1,h2,h3⟩=>⟨h1,h2,Ic (k (lt i j)) h3⟩
theorem run_wp {α:Type} {cmp:Nat->Nat->(Bool->Shared->Prop)->Shared->Prop} {s:Shared} (hc:∀ i j (C:Bool->Shared->Prop),V i->V j->C (lt i j) s->cmp i j C s) {Q:α->Prop} {G:α->Shared->Prop} (hq:∀ a,Q a->G a s) :
  ∀ t:KasT α,run lt V t Q->t.kasWp cmp G s
 | .ret a,h=>hq a h
 | .ask i j k,⟨h1,h2,h3⟩=>hc i j _ h1 h2 (run_wp hc hq (k (lt i j)) h3)
theorem Ev {α:Type} {c:Prop} {inst:Decidable c} {t u:KasT α} {Q:α->Prop} (h1:c->run lt V t Q) (h2:¬ c->run lt V u Q):run lt V (@ite _ c inst t u) Q:=by
 by_cases h:c
 ·rw[if_pos h]; exact h1 h
 ·rw[if_neg h]; exact h2 h
end
section
variable {O:KeyOrd} {key:Nat->O.α} {N:Nat}
abbrev ltK (key:Nat->O.α):Nat->Nat->Bool:=fun i j=>O.blt (key i) (key j)
def kk (key:Nat->O.α) (p:Array Nat) (i:Nat):O.α:=key (p.getD i 0)
def Pm (N:Nat) (p:Array Nat):Prop:=p.Perm (zAI N).toArray
def Up (key:Nat->O.α) (p:Array Nat) (m:Nat):Prop:=∀ i j,i<=j->j<m->O.kle (kk key p i) (kk key p j)
def Dn (key:Nat->O.α) (p:Array Nat) (m:Nat):Prop:=∀ i j,i<=j->j<m->O.kle (kk key p j) (kk key p i)
theorem Pm.size {p:Array Nat} (h:Pm N p):p.size=N:=by rw[h.size_eq]; simp
set_option tactic.hygienic true in
theorem Pm.lt {p:Array Nat} (h:Pm N p) (hN:0<N) (i:Nat):p.getD i 0<N:=by
 unfold zCa
 split
 ·rename_i hi
  have m:p[i]∈p.toList:=by simp
  have m2:=(zCe.mp h).mem_iff.mp m
  simpa using m2
 ·exact hN
theorem Pm.rev {p:Array Nat} (h:Pm N p) (i j:Nat):Pm N (kas_rev p i j):=(mirror_perm p i j _).trans h
theorem Pm.bub {p:Array Nat} (h:Pm N p) (i j:Nat):Pm N (bubble p i j):=(bubble_perm p i j).trans h
theorem Mw {p q:Array Nat} {i j:Nat} (h:p[i]?=q[j]?):p.getD i 0=q.getD j 0:=by
 have e:∀ (r:Array Nat) (k:Nat),r.getD k 0=(r[k]?).getD 0:=fun r k=>by
  by_cases hk:k<r.size <;> simp [zCa,hk]
 rw[e,e,h]
theorem F8 {p:Array Nat} {i j:Nat} (hj:j<=p.size) (k:Nat):kk key (kas_rev p i j) k=if i<=k/\k<j then kk key p (i+j-1-k) else kk key p k:=by
 have e:=getElem?_mirror_all (xs:=p) (i:=i) hj k;unfold kk kas_rev;by_cases c:i<=k/\k<j
 ·rw[if_pos c] at e ⊢; rw[Mw e]
 ·rw[if_neg c] at e ⊢; rw[Mw e]
theorem JL {p:Array Nat} {b d:Nat} (hs:b<p.size) (hd:d<=b) (k:Nat):kk key (bubble p b d) k=if k=b-d then kk key p b else if b-d<k/\k<=b then kk key p (k-1) else kk key p k:=by
 have e:=getElem?_bubble hs d hd k;unfold kk;by_cases c:k=b-d
 ·rw[if_pos c] at e ⊢; rw[Mw e]
 ·rw[if_neg c] at e ⊢
  by_cases c2:b-d<k/\k<=b
  ·rw[if_pos c2] at e ⊢; rw[Mw e]
  ·rw[if_neg c2] at e ⊢; rw[Mw e]
theorem Ym {p:Array Nat} {i j:Nat} (hj:j<=p.size) (h:∀ k,i<=k->k<j->kk key p k=kk key p (j-1)) (k:Nat):kk key (kas_rev p i j) k=kk key p k:=by
 rw[F8 hj];by_cases c:i<=k/\k<j
 ·rw[if_pos c,h _ (by lia) (by lia),h k c.1 c.2]
 ·rw[if_neg c]
theorem Up.more {p:Array Nat} {n:Nat} (h:Up key p n) (e:O.kle (kk key p (n-1)) (kk key p n)):Up key p (n+1):=fun i j hij hj=>by
 rcases Nat.lt_or_ge j n with z | z
 ·exact h i j hij z
 ·obtain rfl:j=n:=by lia
  rcases Nat.eq_or_lt_of_le hij with y | y
  ·rw[y]; exact KeyOrd.kle_refl _
  ·exact KeyOrd.kle_trans (h i (j-1) (by lia) (by lia)) e
theorem Dn.more {p:Array Nat} {n:Nat} (h:Dn key p n) (e:O.kle (kk key p n) (kk key p (n-1))):Dn key p (n+1):=fun i j hij hj=>by
 rcases Nat.lt_or_ge j n with z | z
 ·exact h i j hij z
 ·obtain rfl:j=n:=by lia
  rcases Nat.eq_or_lt_of_le hij with y | y
  ·rw[y]; exact KeyOrd.kle_refl _
  ·exact KeyOrd.kle_trans e (h i (j-1) (by lia) (by lia))
theorem Dn.of {p q:Array Nat} {n:Nat} (h:Dn key p n) (e:∀ k,kk key q k=kk key p k):Dn key q n:=fun i j a b=>by rw[e,e]; exact h i j a b
variable {β:Type}
theorem Wp {p:Array Nat} (hp:Pm N p) (hN:0<N) {Q:Nat->Prop}:∀ (f n:Nat),Up key p n->(∀ m,n<=m->m<=n+f->Up key p m->(m=n+f\/O.klt (kk key p m) (kk key p (m-1)))->Q m)->run (ltK key) (fun i=>i<N) (kas_asc p f n) Q
 | 0,n,h,q=>q n (zAn _) (zAn _) h (.inl rfl)
 | f+1,n,h,q=>by
  refine⟨hp.lt hN _,hp.lt hN _,?_⟩;refine Ev (fun c=>?_) (fun c=>?_)
  ·exact q n (zAn _) (by lia) h (.inr c)
  ·exact Wp hp hN f (n+1) (h.more (KeyOrd.kle_of_not_klt c)) fun m a b u v=>q m (by lia) (by lia) u (v.imp (fun z=>by lia) id)
def Tl (key:Nat->O.α) (p:Array Nat) (n q:Nat):Prop:=q+1<=n/\∀ i,n-(q+1)<=i->i<n->kk key p i=kk key p (n-1)
theorem Tl.one {p:Array Nat} {n:Nat}:Tl key p (n+1) 0:=⟨by lia,fun i a b=>by rw[show i=n+1-1 by lia]⟩
theorem Nh (hN:0<N) {Q:Array Nat×Nat×Nat->Prop}:∀ (f:Nat) (p:Array Nat) (n q:Nat),Pm N p->n+f<=N->Dn key p n->Tl key p n q->(∀ p' m q',Pm N p'->n<=m->m<=n+f->Dn key p' m->Tl key p' m q'->Q (p',m,q'))->run (ltK key) (fun i=>i<N) (kas_desc f p n q) Q
 | 0,p,n,q,hp,_,d,t,k=>k p n q hp (zAn _) (zAn _) d t
 | f+1,p,n,q,hp,hf,d,t,k=>by
  have sz:=hp.size;refine⟨hp.lt hN _,hp.lt hN _,?_⟩;refine Ev (fun c=>?_) (fun c=>?_)
  ·have d1:=d.more (KeyOrd.kle_of_klt c)
   refine Ev (fun _=>?_) (fun _=>?_)
   ·have like:∀ k,kk key (kas_rev p (n-(q+1)) n) k=kk key p k:=Ym (by lia) t.2
    exact Nh hN f _ (n+1) 0 (hp.rev _ _) (by lia) (d1.of like) .one fun p' m q' a b e=>k p' m q' a (by lia) (by lia)
   ·exact Nh hN f _ (n+1) 0 hp (by lia) d1 .one fun p' m q' a b e=>k p' m q' a (by lia) (by lia)
  ·refine⟨hp.lt hN _,hp.lt hN _,?_⟩
   refine Ev (fun c2=>?_) (fun c2=>?_)
   ·exact k p n q hp (zAn _) (by lia) d t
   ·have e:kk key p n=kk key p (n-1):=KeyOrd.kle_antisymm (KeyOrd.kle_of_not_klt c2) (KeyOrd.kle_of_not_klt c)
    refine Nh hN f p (n+1) (q+1) hp (by lia) (d.more (by rw[e]; exact KeyOrd.kle_refl _)) ⟨by have:=t.1; lia,fun i a b=>?_⟩ fun p' m q' a b e=>k p' m q' a (by lia) (by lia);rw[show n+1-1=n by lia];rcases Nat.lt_or_ge i n with z | z
    ·rw[e]; exact t.2 i (by lia) z
    ·rw[show i=n by lia]
theorem D1 {p:Array Nat} {n m:Nat} (hN:0<N) (hp:Pm N p) (hm:m<=N) (hn:n<=m) (d:Dn key p n) {Q:Nat×Array Nat->Prop} (q:∀ r p',Pm N p'->n<=r->r<=m->Up key p' r->Q (r,p')):run (ltK key) (fun i=>i<N) (kas_tail3 n m p) Q:=by
 have sz:=hp.size;refine Ic _ (Wp (hp.rev 0 n) hN (m-n) n (fun i j a b=>?_) fun r a b u _=>q r _ (hp.rev 0 n) a (by lia) u);rw[F8 (by lia),F8 (by lia),if_pos ⟨by lia,by lia⟩,if_pos ⟨by lia,by lia⟩];exact d _ _ (by lia) (by lia)
theorem C3 {p:Array Nat} {n m:Nat} (hN:0<N) (hp:Pm N p) (hm:m<=N) (hn:n+1<=m) (d:Dn key p (n+1)) {Q:Nat×Array Nat->Prop} (q:∀ r p',Pm N p'->n<=r->r<=m->Up key p' r->Q (r,p')):run (ltK key) (fun i=>i<N) (kas_descPart n m p) Q:=by
 refine Ic _ (Nh hN (m-(n+1)) p (n+1) 0 hp (by lia) d .one fun p' r c hp' a b d' t=>?_);have sz:=hp'.size;refine Ev (fun _=>?_) (fun _=>?_)
 ·have like:∀ k,kk key (kas_rev p' (r-(c+1)) r) k=kk key p' k:=Ym (by lia) t.2
  exact D1 hN (hp'.rev _ _) hm (by lia) (d'.of like) fun x y z u v=>q x y z (by lia) v
 ·exact D1 hN hp' hm (by lia) d' fun x y z u v=>q x y z (by lia) v
theorem Z4 {p:Array Nat} {m:Nat} (hN:0<N) (hp:Pm N p) (hm:m<=N) (h1:1<=m) {Q:Nat×Array Nat->Prop} (q:∀ r p',Pm N p'->1<=r->r<=m->Up key p' r->Q (r,p')):run (ltK key) (fun i=>i<N) (kas_count m p) Q:=by
 have sz:=hp.size;refine Ic _ (Wp hp hN (m-1) 1 (fun i j a b=>?_) fun n a b u v=>?_)
 ·rw[show i=j by lia]; exact KeyOrd.kle_refl _
 refine Ev (fun c=>?_) (fun c=>?_)
 ·exact q n p hp a (by lia) u
 have c':n≠m:=fun e=>c (by rw[e]; exact beq_self_eq_true _);have fall:O.klt (kk key p n) (kk key p (n-1)):=v.resolve_left (by lia);refine Ev (fun g=>?_) (fun g=>?_)
 ·refine⟨hp.lt hN _,hp.lt hN _,?_⟩
  refine Ev (fun r=>?_) (fun r=>?_)
  ·exact q n p hp a (by lia) u
  have alike:∀ k,0<=k->k<n->kk key p k=kk key p (n-1):=fun k _ hk=>
   KeyOrd.kle_antisymm (u k (n-1) (by lia) (by lia)) (KeyOrd.kle_trans (KeyOrd.kle_of_not_klt r) (u 0 k (by lia) hk))
  have like:∀ k,kk key (kas_rev p 0 n) k=kk key p k:=Ym (by lia) alike;refine C3 hN (hp.rev 0 n) hm (by lia) (Dn.of (p:=p) (Dn.more (fun i j x y=>?_) (KeyOrd.kle_of_klt fall)) like) fun x y z w=>q x y z (by lia);rw[alike i (by lia) (by lia),alike j (by lia) y];exact KeyOrd.kle_refl _
 ·refine C3 hN hp hm (by lia) (Dn.more (fun i j x y=>?_) (KeyOrd.kle_of_klt fall)) fun x y z w=>q x y z (by lia)
  rw[show i=j by lia];exact KeyOrd.kle_refl _
theorem Om {p:Array Nat} {k:Nat} (hN:0<N) (hp:Pm N p) (u:Up key p k) {Q:Nat->Prop} (q:∀ l,l<=k->(∀ i,i<l->O.kle (kk key p i) (kk key p k))->(∀ i,l<=i->i<k->O.klt (kk key p k) (kk key p i))->Q l) :
  ∀ (f l r:Nat),l<=r->r<=k->r-l<=f->(∀ i,i<l->O.kle (kk key p i) (kk key p k))->(∀ i,r<=i->i<k->O.klt (kk key p k) (kk key p i))->run (ltK key) (fun i=>i<N) (kas_place p k f l r) Q
 | 0,l,r,a,b,c,x,y=>by
  obtain rfl:l=r:=by lia
  exact q l b x y
 | f+1,l,r,a,b,c,x,y=>by
  refine Ev (fun g=>?_) (fun g=>?_)
  ·obtain rfl:l=r:=by lia
   exact q l b x y
  refine⟨hp.lt hN _,hp.lt hN _,?_⟩;refine Ev (fun z=>?_) (fun z=>?_)
  ·exact Om hN hp u q f l ((l+r)/2) (by lia) (by lia) (by lia) x fun i v w=>KeyOrd.klt_of_klt_of_kle z (u _ i v w)
  ·exact Om hN hp u q f ((l+r)/2+1) r (by lia) b (by lia) (fun i v=>KeyOrd.kle_trans (u i ((l+r)/2) (by lia) (by lia)) (KeyOrd.kle_of_not_klt z)) y
theorem T9 (hN:0<N) {Q:Array Nat->Prop}:∀ (f:Nat) (p:Array Nat) (k:Nat),Pm N p->k+f<=N->Up key p k->(∀ p',Pm N p'->Up key p' (k+f)->Q p')->run (ltK key) (fun i=>i<N) (kas_bin f p k) Q
 | 0,p,k,hp,_,u,q=>q p hp u
 | f+1,p,k,hp,hk,u,q=>by
  have sz:=hp.size;refine Ic _ (Om hN hp u (fun l a lo hi=>?_) k 0 k (by lia) (by lia) (by lia) (fun i z=>by lia) fun i z w=>by lia);refine T9 hN f _ (k+1) (hp.bub _ _) (by lia) (fun i j x y=>?_) fun p' a b=>q p' a (by rw[show k+(f+1)=k+1+f by lia]; exact b);have bb:∀ i,kk key (bubble p k (k-l)) i=if i=l then kk key p k else if l<i/\i<=k then kk key p (i-1) else kk key p i:=fun i=>by
   rw[JL (by lia) (by lia),show k-(k-l)=l by lia]
  rw[bb,bb];rcases zBH i l with c | c | c
  ·rw[if_neg (by lia),if_neg (by lia)]
   rcases zBH j l with e | e | e
   ·rw[if_neg (by lia),if_neg (by lia)]; exact u i j x (by lia)
   ·rw[if_pos e]; exact lo i c
   ·rw[if_neg (by lia),if_pos (by lia)]; exact u i (j-1) (by lia) (by lia)
  ·rw[if_pos c]
   rcases Nat.eq_or_lt_of_le x with e | e
   ·rw[if_pos (by lia)]; exact KeyOrd.kle_refl _
   ·rw[if_neg (by lia),if_pos (by lia)]; exact KeyOrd.kle_of_klt (hi (j-1) (by lia) (by lia))
  ·rw[if_neg (by lia),if_pos (by lia),if_neg (by lia),if_pos (by lia)]
   exact u (i-1) (j-1) (by lia) (by lia)
theorem run_sort (hN:0<N) {Q:Array Nat->Prop} (q:∀ p,Pm N p->Up key p N->Q p):run (ltK key) (fun i=>i<N) (kas_sort N) Q:=by
 refine Ic _ (Z4 hN (show Pm N _ from Array.Perm.refl _) (zAn _) hN fun r p hp a b u=>?_);refine Ev (fun c=>?_) (fun c=>?_)
 ·have c':r<N:=c
  show run _ _ (kas_bin (N-max r 1) p (max r 1)) Q;have e:max r 1=r:=by lia
  rw[e];exact T9 hN _ p r hp (by lia) u fun p' x y=>q p' x (by rw[show r+(N-r)=N by lia] at y; exact y)
 ·have c':¬ r<N:=c
  obtain rfl:r=N:=by lia
  exact q p hp u
end
end CRS
namespace L2
open PySem PySem.Spec PyProof.Rows PySem.W
theorem Ld:∀ a:List Int,HT.lexLt a a=false
 | []=>rfl
 | x::xs=>by unfold HT.lexLt; rw[if_pos rfl]; exact Ld xs
theorem Wi:∀ a b c:List Int,HT.lexLt a b=true->HT.lexLt b c=true->HT.lexLt a c=true
 | [],[],_,h,_=>nomatch h
 | [],_::_,[],_,h=>nomatch h
 | [],_::_,_::_,_,_=>rfl
 | _::_,[],_,h,_=>nomatch h
 | _::_,_::_,[],_,h=>nomatch h
 | x::xs,y::ys,z::zs,h1,h2=>by
  unfold HT.lexLt at h1 h2 ⊢;by_cases e1:x=y
  ·by_cases e2:y=z
   ·rw[if_pos e1] at h1; rw[if_pos e2] at h2; rw[if_pos (e1.trans e2)]; exact Wi xs ys zs h1 h2
   ·rw[if_neg e2] at h2; rw[if_neg (by rw[e1]; exact e2),e1]; exact h2
  ·rw[if_neg e1] at h1
   have l1:=of_decide_eq_true h1;by_cases e2:y=z
   ·rw[if_neg (by rw[<- e2]; exact e1),<- e2]; exact h1
   ·rw[if_neg e2] at h2
    have l2:=of_decide_eq_true h2;rw[if_neg (by omega)];exact decide_eq_true (by omega)
theorem R3:∀ a b c:List Int,HT.lexLt a c=true->HT.lexLt a b=true\/HT.lexLt b c=true
 | [],[],_,h=>.inr h
 | [],_::_,_,_=>.inl rfl
 | _::_,_,[],h=>nomatch h
 | _::_,[],_::_,_=>.inr rfl
 | x::xs,y::ys,z::zs,h=>by
  unfold HT.lexLt at h ⊢;by_cases e1:x=y
  ·by_cases e2:y=z
   ·rw[if_pos (e1.trans e2)] at h; rw[if_pos e1,if_pos e2]; exact R3 xs ys zs h
   ·rw[if_neg (by rw[e1]; exact e2)] at h; rw[if_neg e2]; exact .inr (by rw[<- e1]; exact h)
  ·rw[if_neg e1]
   by_cases e2:y=z
   ·rw[if_neg (by rw[<- e2]; exact e1)] at h; exact .inl (by rw[e2]; exact h)
   ·rw[if_neg e2]
    by_cases l:x<y
    ·exact .inl (decide_eq_true l)
    ·right
     refine decide_eq_true ?_;by_cases e3:x=z
     ·omega
     ·rw[if_neg e3] at h
      have:=of_decide_eq_true h;omega
theorem Vg:∀ a b:List Int,HT.lexLt a b=false->HT.lexLt b a=false->a=b
 | [],[],_,_=>rfl
 | [],_::_,h,_=>nomatch h
 | _::_,[],_,h=>nomatch h
 | x::xs,y::ys,h1,h2=>by
  unfold HT.lexLt at h1 h2;by_cases e1:x=y
  ·rw[if_pos e1] at h1; rw[if_pos e1.symm] at h2; rw[e1,Vg xs ys h1 h2]
  ·rw[if_neg e1] at h1; rw[if_neg (Ne.symm e1)] at h2
   have l1:=of_decide_eq_false h1;have l2:=of_decide_eq_false h2;omega
def LexO:KeyOrd:=⟨List Int,HT.lexLt,Ld,Wi,R3,Vg⟩
section
variable {prog:Program} {w:World} {A:Around} {E:Value->Shared->Prop} {s:Shared}
def GC (prog:Program) (w:World) (A:Around) (vs:List Value) (O:KeyOrd) (key:Nat->O.α) (s:Shared):Prop:=
 ∃ κ:SortKind,(∀ (Q:SortKind->Shared->Prop) (E:Value->Shared->Prop),Q κ s->wpAny (model prog w) A (keyKind' vs.toArray) Q E s) /\
  ∀ i j,i<vs.length->j<vs.length->∀ C:Bool->Shared->Prop,C (O.blt (key i) (key j)) s->wpAny (model prog w) A (keyLt' κ (vs.getD i Value.none) (vs.getD j Value.none)) C (fun _ _=>False) s
def Oe (vs:List Value) (p:Array Nat):List Value:=p.toList.map fun i=>vs.getD i Value.none
theorem A9 {n:Nat} {vs:List Value} {p:Array Nat} (h:CRS.Pm n p):(Oe vs p).length=n:=by
 unfold Oe;rw[zAb,zAC,h.size]
theorem HE:∀ {vs:List Value},vs.length<2->((vs.toArray.zip vs.toArray).map (·.2))=(Oe vs (zAI vs.length).toArray).toArray
 | [],_=>by
  apply Array.toList_inj.mp;simp [Oe]
 | [v],_=>by
  apply Array.toList_inj.mp;simp [Oe]
 | _::_::_,h=>absurd h (by simp)
theorem FY {O:KeyOrd} {key:Nat->O.α} {a:Addr} {vs:List Value} {n:Nat} {P:PySem.Fin->Shared->Prop} (ho:s.heap.get? a=some (seqObj "list" vs.toArray n)) (h64:vs.length<64)
  (ask:∀ h':Heap,(∀ b o,b≠a->s.heap.get? b=some o->h'.get? b=some o)->2<=vs.length->GC prog w A vs O key { s with heap:=h' })
  (h:∀ p,CRS.Pm vs.length p->CRS.Up key p vs.length->P (.done (.ret .none)) { s with heap:=sortedHeap s.heap a vs (Oe vs p).toArray }) :
  wpAny (model prog w) A (Builtin.«list.sort» ⟨[.ref a],[]⟩) P E s:=by
 have lt:a<s.heap.objs.size:=zAq ho;have line:∀ k:Nat,k<64->k<=sizeLine:=fun k hk=>by rw[zCA]; lia
 rw[list_sort_plain];refine zCy (listItems_at ho rfl (zCy (listUpdate_at ho rfl ?_ (by rw[zAh]; exact line _ h64) (zAB _))));obtain⟨e1,ho1⟩:∃ e1,(s.heap.update a (Obj.mapSeq fun _=>(#[]:Array Value))).get? a=some (seqObj "list" #[] e1):=⟨_,get?_update_seq ho fun _ => #[]⟩;refine zCy (seqEpoch_at ho1 rfl (zCy (wpAny_newTuple (zCy (wpAny_newList (wpAny_holding ?_) (zAB _))) (by rw[zAC,zAh]; exact line _ h64))));have sb:=zAQ.update s.heap a (Obj.mapSeq fun _=>(#[]:Array Value));have old:∀ b o,b≠a->s.heap.get? b=some o->(((s.heap.update a (Obj.mapSeq fun _=>(#[]:Array Value))).push (seqObj "tuple" vs.toArray 0)).push (seqObj "list" #[] 0)).get? b=some o:=fun b o nb e=>
  zAe _ (zAe _ ((sb.2 b nb).trans e))
 have ho3:(((s.heap.update a (Obj.mapSeq fun _=>(#[]:Array Value))).push (seqObj "tuple" vs.toArray 0)).push (seqObj "list" #[] 0)).get? a=some (seqObj "list" #[] e1):=zAe _ (zAe _ ho1);show wpAny (model prog w) A _ P E { s with heap:=((s.heap.update a (Obj.mapSeq fun _=>(#[]:Array Value))).push (seqObj "tuple" vs.toArray 0)).push (seqObj "list" #[] 0) }
 dsimp only
 have sz:vs.toArray.size=vs.length:=zAh ..;by_cases few:vs.toArray.size<2
 ·rw[if_pos few,if_pos few]
  refine zCy (zCz ?_);rw[StateT.run_pure];refine zCy (zCz ?_);have eo:(arrOf (SortSt.mk' general' (vs.toArray.zip vs.toArray) #[] 7 none)).map (·.2)=(Oe vs (zAI vs.length).toArray).toArray:=HE (by lia);show wpAny (model prog w) A (do
   let x <- seqEpoch a
   let _ <- Builtin.List.listUpdate (.ref a) fun _=>(arrOf (SortSt.mk' general' (vs.toArray.zip vs.toArray) #[] 7 none)).map (·.2)
   _) P E _
  rw[eo];refine zCy (seqEpoch_at ho3 rfl (zCy (listUpdate_at ho3 rfl ?_ (zAB _) (by rw[zAh,A9 (n:=vs.length) (Array.Perm.refl _)]; have:=line _ h64; lia))));simp only [bne_self_eq_false,zBM,if_false];refine zCz (h _ (Array.Perm.refl _) fun i j hij hj=>?_);rw[show i=j by lia];exact KeyOrd.kle_refl _
 ·rw[if_neg few,if_neg few]
  have two:2<=vs.length:=by lia
  obtain⟨κ,kind,less⟩:=ask _ old two;refine zCy (kind _ _ ?_);have tree:(kas_sort vs.length).kasWp (kas_ask prog w A κ vs) (fun p s'=>s'={ s with heap:=((s.heap.update a (Obj.mapSeq fun _=>(#[]:Array Value))).push (seqObj "tuple" vs.toArray 0)).push (seqObj "list" #[] 0) }/\CRS.Pm vs.length p/\CRS.Up key p vs.length)
    { s with heap:=((s.heap.update a (Obj.mapSeq fun _=>(#[]:Array Value))).push (seqObj "tuple" vs.toArray 0)).push (seqObj "list" #[] 0) }:=
   CRS.run_wp (lt:=CRS.ltK key) (V:=fun i=>i<vs.length) (fun i j C hi hj hC=>less i j hi hj C hC) (fun p hp=>⟨rfl,hp⟩) _ (CRS.run_sort (by lia) fun p h1 h2=>⟨h1,h2⟩)
  refine zCy (wpAny_mono (kat_run (ks:=vs) (vs:=vs) (Q:=fun st' s'=>s'={ s with heap:=((s.heap.update a (Obj.mapSeq fun _=>(#[]:Array Value))).push (seqObj "tuple" vs.toArray 0)).push (seqObj "list" #[] 0) }/\failedOf st'=none/\∃ p,CRS.Pm vs.length p/\CRS.Up key p vs.length/\(arrOf st').map (·.2)=(Oe vs p).toArray)
   rfl two h64 (fun p st' s' _ har hf ⟨es,g1,g2⟩=>⟨es,hf,p,g1,g2,kat_snds rfl har⟩) tree) ?_ fun _ _ e=>e)
  rintro ⟨⟨⟩,st'⟩ s' ⟨rfl,hf,p,hp,hu,eo⟩;show wpAny (model prog w) A (do
   let x <- seqEpoch a
   let _ <- Builtin.List.listUpdate (.ref a) fun _=>(arrOf st').map (·.2)
   _) P E _
  rw[eo];refine zCy (seqEpoch_at ho3 rfl (zCy (listUpdate_at ho3 rfl ?_ (zAB _) (by rw[zAh,A9 hp]; have:=line _ h64; lia))));rw[hf];simp only [bne_self_eq_false,zBM,if_false];exact zCz (h p hp hu)
theorem Vc {O:KeyOrd} {key:Nat->O.α} {l:Addr} {vs:List Value} {Q:Value->Shared->Prop} (hl:s.heap.IsList l vs.toArray) (h64:vs.length<64)
  (ask:∀ (A:Around) (h':Heap),(∀ b o,s.heap.get? b=some o->h'.get? b=some o)->2<=vs.length->GC prog w A vs O key { s with heap:=h' })
  (h:∀ p,CRS.Pm vs.length p->CRS.Up key p vs.length->Q (.ref (s.heap.objs.size+1)) { s with heap:=sortedAll s.heap vs (Oe vs p).toArray }) :
  wpAny (model prog w) A (call (.builtin "sorted") [.ref l]) Q E s:=by
 have line:vs.length<=sizeLine:=by rw[zCA]; omega
 refine Calls.call_function_entry kind_sorted plain_sorted entry_sorted (args_sorted1 _) ?_;unfold Builtin.«sorted»;refine zCy (m:=checkCount "sorted" 1 1 _) (zCz (zCy (collect_list hl (zCy (wpAny_newList ?_ line)))));have sz:((s.heap.push (seqObj "list" #[] 0)).update s.heap.objs.size (Obj.mapSeq (· ++ vs.toArray))).objs.size=s.heap.objs.size+1:=by rw[Heap.size_update,size_push']
 have at1:(((s.heap.push (seqObj "list" #[] 0)).update s.heap.objs.size (Obj.mapSeq (· ++ vs.toArray))).push (seqObj "list" vs.toArray 0)).get? (s.heap.objs.size+1)=some (seqObj "list" vs.toArray 0):=by
  rw[<- sz];exact zAt _ rfl
 have old:∀ b o,s.heap.get? b=some o->(((s.heap.push (seqObj "list" #[] 0)).update s.heap.objs.size (Obj.mapSeq (· ++ vs.toArray))).push (seqObj "list" vs.toArray 0)).get? b=some o:=fun b o e=>
  zAe _ (((zAQ.update (s.heap.push (seqObj "list" #[] 0)) s.heap.objs.size (Obj.mapSeq (· ++ vs.toArray))).2 b (zAu (zAq e))).trans (zAe _ e))
 show wpAny (model prog w) _ _ _ _ { s with heap:=((s.heap.push (seqObj "list" #[] 0)).update s.heap.objs.size (Obj.mapSeq (· ++ vs.toArray))).push (seqObj "list" vs.toArray 0) };rw[sz];refine zCy (wpAny_holding (wpAny_call_entry slot_list_sort ⟨_,at1,rfl⟩ entry_list_sort (FY (O:=O) (key:=key) at1 h64 (fun h' k two=>?_) fun p hp hu=>⟨_,rfl,?_⟩) (args_list_sort _)))
 ·exact ask _ h' (fun b o e=>k b o (zAu (zBz (zAq e))) (old b o e)) two
 ·exact zCz ⟨_,rfl,h p hp hu⟩
theorem Yz {Q:Bool->Shared->Prop}:∀ {xs ys:List Value} {ns ms:List Int} (i:Nat),IntsAre xs ns->IntsAre ys ms->ns.length=ms.length->Q (HT.lexLt ns ms) s->KatLex prog w A true false Q (xs.zip ys) i s
 | _,_,_,_,i,.nil,.nil,_,h=>kat_nil h
 | _,_,_,_,_,.nil,.cons _ _ _,e,_=>by simp at e
 | _,_,_,_,_,.cons _ _ _,.nil,e,_=>by simp at e
 | _,_,_,_,i,.cons a t r,.cons b u r',e,h=>by
  rw[List.zip_cons_cons];refine kat_cons (wpAny_eqBool_int ?_);rw[HT.lexLt_cons] at h;by_cases c:a=b
  ·rw[if_pos c] at h
   have e2:(a==b)=true:=by rw[c]; exact beq_self_eq_true b
   rw[e2];exact kat_yes (Yz (i+1) r r' (by simpa using e) h)
  ·rw[if_neg c] at h
   have e2:(a==b)=false:=by simpa using c
   rw[e2];refine kat_no ?_;cases i with
   | zero=>exact oneLt_int h
   | succ i=>exact kat_one _ _ (PyProof.Rows.lt_int h)
def TupV (h:Heap) (k:Nat):List Value->List (List Int)->Prop
 | [],[]=>True
 | v::vs,r::rs=>(∃ (t:Addr) (xs:List Value),v = .ref t/\IsTup h t xs.toArray/\IntsAre xs r/\r.length=k)/\TupV h k vs rs
 | _,_=>False
theorem TupV.keep {h h':Heap} {k:Nat} (kp:∀ b o,h.get? b=some o->h'.get? b=some o):∀ {vs:List Value} {rs:List (List Int)},TupV h k vs rs->TupV h' k vs rs
 | [],[],_=>trivial
 | [],_::_,z=>z.elim
 | _::_,[],z=>z.elim
 | v::vs,r::rs,⟨⟨t,xs,e,⟨o,ho,hc⟩,z⟩,q⟩=>⟨⟨t,xs,e,⟨o,kp _ _ ho,hc⟩,z⟩,q.keep kp⟩
theorem TupV.at {h:Heap} {k:Nat}:∀ {vs:List Value} {rs:List (List Int)} {i:Nat},TupV h k vs rs->i<vs.length->∃ (t:Addr) (xs:List Value),vs.getD i Value.none = .ref t/\IsTup h t xs.toArray/\IntsAre xs (rs.getD i [])/\(rs.getD i []).length=k
 | [],[],_,_,z=>by simp at z
 | [],_::_,_,z,_=>z.elim
 | _::_,[],_,z,_=>z.elim
 | v::vs,r::rs,0,⟨⟨t,xs,e,z⟩,q⟩,_=>⟨t,xs,e,z⟩
 | v::vs,r::rs,i+1,⟨_,q⟩,l=>q.at (i:=i) (by simpa using l)
theorem TupV.firsts {h:Heap} {k:Nat}:∀ {vs:List Value} {rs:List (List Int)},TupV h (k+1) vs rs->∃ fs:List Value,KatTups h vs fs/\fs.length=vs.length/\∀ v∈fs,∃ (n:Int) (t:Tok),v = .int n t
 | [],[],_=>⟨[],trivial,rfl,fun _ z=>nomatch z⟩
 | [],_::_,z=>z.elim
 | _::_,[],z=>z.elim
 | v::vs,r::rs,⟨⟨t,xs,e,⟨o,ho,hc,n,hd⟩,ia,l⟩,q⟩=>by
  obtain⟨fs,h1,h2,h3⟩:=q.firsts;cases ia with
  | nil=>simp at l
  | cons a u rr=>
   refine⟨.int a u::fs,⟨⟨t,o,_,n,e,ho,hc,hd,by simp⟩,h1⟩,by rw[zAf,zAf,h2],fun y hy=>?_⟩;rcases zAo.mp hy with z | z
   ·exact⟨a,u,z⟩
   ·exact h3 y z
theorem Va {M:Model} {h:Heap} (n:Int) (t:Tok):Looks M h (typeOf (.int n t)) (.type "int"):=fun A Q E s _ q=>wpAny_of_eq rfl q
theorem AL {vs:List Value} {rs:List (List Int)} {k:Nat} (T:TupV s.heap (k+1) vs rs) (two:2<=vs.length):GC prog w A vs LexO (fun i=>rs.getD i []) s:=by
 obtain⟨fs,h1,h2,h3⟩:=T.firsts;refine⟨tuples' (Value.type "int" != Value.type "tuple"),fun Q E q=>kat_kind h1 (by lia) (fun v hv=>?_) rfl q,fun i j hi hj C hC=>?_⟩
 ·obtain⟨n,t,rfl⟩:=h3 v hv
  exact Va n t
 ·obtain⟨t,xs,e,⟨o,ho,hc,n,hd⟩,ia,l⟩:=T.at hi
  obtain⟨t',xs',e',⟨o',ho',hc',n',hd'⟩,ia',l'⟩:=T.at hj;rw[e,e'];have ls:=ia.length;have ls':=ia'.length;have nb:(Value.type "int" != Value.type "tuple")=true:=by ac_nf
  rw[nb];refine kat_lt ho hd ho' hd' ?_;have ef:decide (xs.toArray.size<xs'.toArray.size)=false:=decide_eq_false (by simp only [zAh]; lia);rw[ef];exact Yz 0 ia ia' (l.trans l'.symm) hC
end
def TupI (K:zAa) (H:Hp) (k:Nat):List V->List (List Int)->Prop
 | [],[]=>True
 | y::ys,r::rs=>(∃ t,y = .ref t/\SqT K H t (r.map V.int)/\r.length=k)/\TupI K H k ys rs
 | _,_=>False
theorem Qm:∀ {r:List Int} {us:List Value},Vals (r.map V.int) us->IntsAre us r
 | [],_,.nil=>.nil
 | a::r,_,.cons ⟨t,e⟩ rr=>by subst e; exact .cons a t (Qm rr)
section
variable {X:Cx}
theorem TupI.vals {pins:List (Addr×Obj)} {σ:St} {H:Hp} {s:Shared} {k:Nat} (I:Inv X pins σ H s):∀ {ys:List V} {rs:List (List Int)} {us:List Value},TupI X.K H k ys rs->Vals ys us->TupV s.heap k us rs
 | [],[],_,_,.nil=>trivial
 | [],_::_,_,z,_=>z.elim
 | _::_,[],_,z,_=>z.elim
 | y::ys,r::rs,_,⟨⟨t,e,h,l⟩,q⟩,.cons rv rr=>by
  subst e;cases rv;obtain⟨its,rv',p,_⟩:=I.tuple h;exact⟨⟨t,its,rfl,p,Qm rv',l⟩,q.vals I rr⟩
theorem E7:∀ {ys:List V} {us:List Value} (i:Nat),Vals ys us->RelV (ys.getD i .non) (us.getD i Value.none)
 | _,_,_,.nil=>rfl
 | _,_,0,.cons r _=>r
 | _,_,i+1,.cons _ rr=>by
  rw[List.getD_cons_succ,List.getD_cons_succ];exact E7 i rr
theorem Tg {ys:List V} {us:List Value} (r:Vals ys us):∀ l:List Nat,Vals (l.map fun i=>ys.getD i .non) (l.map fun i=>us.getD i Value.none)
 | []=>.nil
 | i::l=>.cons (E7 i r) (Tg r l)
def LC (K:zAa):List V->Hp->VK->Prop:=fun xs H Q=>∃ a ys rs,∃ k:Nat,xs=[.ref a]/\SqL K H a ys/\ys.length<64/\TupI K H (k+1) ys rs /\
 ∀ (l:Addr) (p:Array Nat),H l=none->CRS.Pm ys.length p->CRS.Up (O:=LexO) (fun i=>rs.getD i []) p ys.length->Q (.ref l) (upd H l (.lst (p.toList.map fun i=>ys.getD i .non)))
theorem GF:Gf X (.builtin "sorted") (LC X.K):=by
 intro pins s σ H xs us Q I r h;obtain⟨a,ys,rs,k,rfl,hq,l64,T,q⟩:=h;obtain⟨u,rfl,rx⟩:=Ji r;cases rx;obtain⟨its,rv,pl,hz⟩:=I.list hq;have hl:=rv.length;have TV:=T.vals I rv;refine Vc (O:=LexO) (key:=fun i=>rs.getD i []) pl.isList (by lia) (fun A' h' kp two=>AL (s:={ s with heap:=h' }) (TV.keep kp) two) fun p hp hu=>?_;obtain⟨e,he⟩:=sortedAll_at s.heap its (Oe its p).toArray;have lp:(p.toList.map fun i=>ys.getD i .non).length<=sizeLine:=by
  rw[zAb,zAC,hp.size]
  lia
 rw[<- hl] at hp hu;exact⟨.ref (s.heap.objs.size+1),_,I.laid (t':=s.toks) (fun b o q=>sortedAll_old q) (zBl _) (show ObjOk X.prog X.w _ _ _ (.lst _) from ⟨lp,Oe its p,e,Tg rv _,he⟩),rfl,q _ p (I.hok.fresh (zBl _)) hp hu⟩
def QD (K:zAa) (t:TE):TT:=fun σ H Q=>t σ H fun x H1=>∃ k,KS K x H1 k/\Q k H1
theorem DL {e:Expr} {t:TE} (h:PE X e t) (he:∀ whole,isTrue e X.env whole=(do let v <- whole; standAt e.pos; holding [v] (truthy v)):=by intro _; rfl):PT X e (QD X.K t):=by
 intro pins s σ H Q I hw;exact isTrue_plain (Cs (h pins s σ H _ I hw) fun v s1 ⟨x,H1,I1,r1,q1⟩=>BQ pins s1 σ H1 x v Q I1 r1 q1) (he _)
end
end L2
namespace L2
open PySem PySem.Spec PyProof.Rows
structure FunD (K:zAa) (x qual:Str) (st:Stmt) (f:Addr) (fd:zCC):Prop where
 ex:∃ (oc:Value) (od:Option Addr) (dV kV doc pm:Value) (an:Option Addr) (cdv ct:Value) (osl:Array (Option Value)),
  fd=zAS x qual (Di st) (Cz st) (As st) dV kV doc pm an cdv ct/\K.lookup f=some ⟨oc,od,.func fd,osl⟩/\zBq K cdv qual=true
 kp:zAP K (.ref f)=true
section
variable {P:Program} {w:World} {K:zAa} {mg:Str->Option Value} {base:Heap}
theorem FunD.ok {x qual:Str} {st:Stmt} {f:Addr} {fd:zCC} {N ps:List Str} {k:Nat} {sp:Sp} (F:FunD K x qual st f fd) (S:Bb N ps (As st)) (len:∀ vs H Q E,sp vs H Q E->vs.length=ps.length)
  (hbody:∀ (cdv:Value) (A:Around) (outer:List Env) (s:Shared) (H:Hp) (vs:List V) (Q:VK) (E:XK),Room k (A.deeper (envOfC qual (As st) s.heap.objs.size f cdv))->sp vs H Q E ->
   ∃ t,PSs (F4 Cu P w K mg base N qual (As st) f cdv A outer s H E).nox (Cz st) t/\t { nx:=fun _ H'=>Q .non H',rt:=Q } (Mn N vs) H):FnOk P w K mg base Cu (k+1) f fd ps sp:=by
 obtain⟨oc,od,dV,kV,doc,pm,an,cdv,ct,osl,e,lk,hcd⟩:=F.ex;subst e;refine IA lk hcd S len fun A outer s H vs Q E hr hsp=>?_;obtain⟨t,h,q⟩:=hbody cdv A outer s H vs Q E hr hsp;exact⟨t,h.nox,q⟩
theorem HJ {x qual:Str} {st:Stmt} {f:Addr} {oc:Value} {od an:Option Addr} {osl:Array (Option Value)} {dV kV doc pm cdv ct:Value} (l:K.lookup f=some ⟨oc,od,.func (zAS x qual (Di st) (Cz st) (As st) dV kV doc pm an cdv ct),osl⟩)
  (c:zBq K cdv qual=true) (k:zAP K (.ref f)=true):FunD K x qual st f (zAS x qual (Di st) (Cz st) (As st) dV kV doc pm an cdv ct):=⟨⟨oc,od,dV,kV,doc,pm,an,cdv,ct,osl,rfl,l,c⟩,k⟩
end
theorem Ru {K K':zAa} {a:Addr} {xs:List V} {i1 i2:Nat} {tb:TS} {D:Nj} {σ:St} {H:Hp} (Pv:Nat->St->Hp->Prop) (h0:Pv 0 σ H) (hl:∀ i σ H,i<=xs.length->Pv i σ H->SqL K H a xs)
  (hs:∀ i x σ H t,xs[i]?=some x->Pv i σ H->H t=none->tb { D with nx:=Pv (i+1),ct:=Pv (i+1),bk:=D.nx } ((σ.set i1 (some (.int i))).set i2 (some x)) (upd H t (.tup [.int i,x]))) (hd:∀ σ H,Pv xs.length σ H->D.nx σ H) :
  ∃ W:Nat->Nat->St->Hp->Prop,(∃ m,W 0 m σ H)/\∀ i m σ H,W i m σ H ->
   ((LN K a).stop i H/\D.nx σ H)\/((LN K a).go i H/\∃ N:St->Hp->Prop,(∀ σ' H',N σ' H'->∃ m',m'<m/\W (i+1) m' σ' H')/\∀ x H',(LN K a).yld i H x H'->AR K' 2 (Mv (Ey i1) (Mv (Ey i2) EJ)) x σ H' fun σ2 H2=>tb { D with nx:=N,ct:=N,bk:=D.nx } σ2 H2):=by
 refine⟨fun i m σ H=>m=xs.length-i/\i<=xs.length/\Pv i σ H,⟨xs.length,by simp,zAB _,h0⟩,?_⟩;rintro i m σ H ⟨rfl,hi,p⟩;have q:=hl i σ H hi p;by_cases hlt:i<xs.length
 ·refine .inr ⟨⟨xs,xs[i],q,by simp [hlt]⟩,Pv (i+1),fun σ' H' p'=>⟨xs.length-(i+1),by omega,rfl,hlt,p'⟩,fun x H' y=>?_⟩
  obtain⟨t,z,ex,ht,hz,e3⟩:=y;subst ex e3;exact⟨t,_,rfl,SqT.of Ab,rfl,_,_,rfl,_,_,rfl,rfl,hs i z σ H t (hz xs q) p ht⟩
 ·obtain rfl:i=xs.length:=by omega
  exact .inl ⟨⟨xs,q,zAn _⟩,hd σ H p⟩
def NW (K:zAa) (a b:Addr):It:=
 ⟨fun i H=>∃ xs ys x y,SqL K H a xs/\SqL K H b ys/\xs[i]?=some x/\ys[i]?=some y,
   fun i H v H'=>∃ t x y,v = .ref t/\H t=none/\(∀ xs,SqL K H a xs->xs[i]?=some x)/\(∀ ys,SqL K H b ys->ys[i]?=some y)/\H'=upd H t (.tup [x,y]),
   fun i H=>∃ xs ys,SqL K H a xs/\SqL K H b ys/\(xs.length<=i\/ys.length<=i)⟩
structure Zp (z u o i j:Addr):Prop where
 uz:u≠z
 oz:o≠z
 iz:i≠z
 jz:j≠z
 uo:u≠o
 ui:u≠i
 uj:u≠j
 oi:o≠i
 oj:o≠j
 ij:i≠j
theorem KO (n:Nat):Zp (n+4) (n+2) (n+3) n (n+1):=
 ⟨zAu (by lia),zAu (by lia),zAu (by lia),zAu (by lia),zAu (by lia),zBk (by lia),zBk (by lia),zBk (by lia),zBk (by lia),zAu (by lia)⟩
def ID (a b z u o i j:Addr) (k:Nat) (h:Heap):Prop:=IsZip h z u o .none/\IsPair h u (.ref i) (.ref j)/\(∃ x y,IsPair h o x y)/\h.IsListIter i a k/\h.IsListIter j b k
theorem Vh {a b z u o i j:Addr} {k:Nat} {h:Heap} {xs ys:Array Value} (D:Zp z u o i j) (st:ID a b z u o i j k h) (ha:h.IsList a xs) (hb:h.IsList b ys):ZipApart z u o i j a b:=by
 obtain⟨hz,hu,⟨x,y,ho⟩,⟨oi,ei,ci,_⟩,⟨oj,ej,cj,_⟩⟩:=st;have ne:∀ {c d:Addr} {p q:Obj} {zs:Array Value},h.IsList c zs->h.get? d=some q->q.cls ≠ .type "list" -> c≠d:=fun {c d p q zs} hl hd hn e=>by
  obtain⟨p',hp,hc,_⟩:=hl;rw[e,hd] at hp;cases hp;exact hn hc
 have nz:(Value.type "zip") ≠ .type "list" := by ac_nf
 have nt:(Value.type "tuple") ≠ .type "list" := by ac_nf
 have ni:(Value.type "list_iterator") ≠ .type "list" := by ac_nf
 have hci:oi.cls ≠ .type "list" := by rw[ci]; exact ni
 have hcj:oj.cls ≠ .type "list" := by rw[cj]; exact ni
 constructor <;> first
  | exact D.uz | exact D.oz | exact D.iz | exact D.jz | exact D.uo | exact D.ui | exact D.uj | exact D.oi | exact D.oj | exact D.ij
  | exact ne (p:=oi) ha hz nz | exact ne (p:=oi) hb hz nz | exact ne (p:=oi) ha ho nt | exact ne (p:=oi) hb ho nt | exact ne (p:=oi) ha hu nt | exact ne (p:=oi) hb hu nt
  | exact ne (p:=oi) ha ei hci | exact ne (p:=oi) hb ei hci | exact ne (p:=oi) ha ej hcj | exact ne (p:=oi) hb ej hcj
theorem FO {P:Program} {w:World} {K:zAa} {elts:List Expr} {n:Nat} {tp:Pos} (a b z u o i j:Addr) (D:Zp z u o i j) :
  Wl P w K (.Tuple elts n tp) (NW K a b) [z,u,o,i,j] z (ID a b z u o i j) where
 mem:=by simp
 obj:=fun k h st c hc=>by
  obtain⟨hz,hu,⟨x,y,ho⟩,⟨oi,ei,ci,di⟩,⟨oj,ej,cj,dj⟩⟩:=st;simp only [zAo,zBa,or_false] at hc;rcases hc with rfl | rfl | rfl | rfl | rfl
  ·exact⟨_,hz,fun v q=>by
    have q':Data.fields _=Data.cell v:=q;cases q'⟩
  ·exact⟨_,hu,fun v q=>by
    have q':Data.seq _ _=Data.cell v:=q;cases q'⟩
  ·exact⟨_,ho,fun v q=>by
    have q':Data.seq _ _=Data.cell v:=q;cases q'⟩
  ·exact⟨oi,ei,fun v q=>by rw[di] at q; cases q⟩
  ·exact⟨oj,ej,fun v q=>by rw[dj] at q; cases q⟩
 keep:=fun k h h' st kk=>by
  obtain⟨hz,hu,⟨x,y,ho⟩,h1,h2⟩:=st;exact⟨kk z (by simp) _ hz,kk u (by simp) _ hu,⟨x,y,kk o (by simp) _ ho⟩,h1.at fun ob e=>kk i (by simp) ob e,h2.at fun ob e=>kk j (by simp) ob e⟩
 item:=by
  intro X hP hw hK hc k pins s σ H E I hf st hg;subst hP hw hK;obtain⟨xs,ys,x,y,hq1,hq2,hx,hy⟩:=hg;obtain⟨its,rv,p,hz⟩:=I.list hq1;obtain⟨jts,rv',p',hz'⟩:=I.list hq2;obtain⟨v,hv,ru⟩:=rv.get hx;obtain⟨v',hv',ru'⟩:=rv'.get hy;have DD:=Vh D st p.isList p'.isList;obtain⟨sz,su,⟨x0,y0,so⟩,s1,s2⟩:=id st;have fz:=hf z (by simp);have fu:=hf u (by simp);have fo:=hf o (by simp);have fi:=hf i (by simp);have fj:=hf j (by simp);refine wpAny_pyNext_zip_item DD sz su so s1 s2 p.isList p'.isList (x:=v) (y:=v') (by simpa using hv) (by simpa using hv') fun h1 a1 a2 a3 a4 a5 a6 hk=>⟨_,rfl,?_⟩;refine wpAny_letOwnedTupleGo_zip a1 fun h2 hz2 hs2=>?_;have hs2':zAQ z h1 h2:=hs2;have hzlt:z<s.heap.objs.size:=zAq sz;have hnT:H s.heap.objs.size=none:=I.hok.fresh (zAn _);have up:∀ c ob,c≠z->c≠o->c≠i->c≠j->s.heap.get? c=some ob->h2.get? c=some ob:=fun c ob c1 c2 c3 c4 q=>(hs2'.2 c c1).trans (hk c ob c1 c2 c3 c4 q);have nch:∀ c,c∉[z,o,i,j]->c≠z/\c≠o/\c≠i/\c≠j:=fun c hc=>by
   simp only [zAo,zBa,or_false,not_or] at hc;exact hc
  have ntr:∀ c ob,H c=some ob->c≠z/\c≠o/\c≠i/\c≠j:=fun c ob q=>
   ⟨fun e=>by (rw[e,fz.1] at q; cases q),fun e=>by (rw[e,fo.1] at q; cases q),fun e=>by (rw[e,fi.1] at q; cases q),fun e=>by (rw[e,fj.1] at q; cases q)⟩
  have up2:∀ c ob,c∉[z,o,i,j]->s.heap.get? c=some ob->h2.get? c=some ob:=fun c ob hc q=>up c ob (nch c hc).1 (nch c hc).2.1 (nch c hc).2.2.1 (nch c hc).2.2.2 q;have up3:∀ c ob ob',H c=some ob'->s.heap.get? c=some ob->h2.get? c=some ob:=fun c ob ob' hc q=>up c ob (ntr c ob' hc).1 (ntr c ob' hc).2.1 (ntr c ob' hc).2.2.1 (ntr c ob' hc).2.2.2 q;have htup:h2.get? s.heap.objs.size=some { cls:=.type "tuple",data:=.seq #[v,v'] }:=(hs2'.2 _ (zBk hzlt)).trans a5;have I1:Inv X pins σ (upd H s.heap.objs.size (.tup [x,y])) { s with heap:=h2,gens:=s.gens,drawn:=s.drawn,toks:=s.toks }:=by
   refine I.step (ch:=[z,o,i,j]) (fun c hc=>?_) (fun c ob _ _ hc q _=>up2 c ob hc q) (fun c ob _ _ hc q _=>⟨ob.slots,up2 c ob hc q⟩) (fun c ob _ q n=>by rw[Ar (zAu (zAq q))]; exact n)
    (fun c ob hc q=>⟨ob,up2 c ob hc q⟩) (fun c xs q=>by rw[Ar (Ap q hnT)]; exact q) (fun c ob u q=>by rw[Ar (Ap q hnT)]; exact q) (fun c ps q=>⟨#[],by rw[Ar (Ap q hnT),q]; simp⟩)
    (fun m hm=>?_) (fun c ob q=>?_) I.bare
   ·simp only [zAo,zBa,or_false] at hc
    rcases hc with rfl | rfl | rfl | rfl
    ·exact⟨fz.2.2.2.1,fz.2.1,fz.2.2.2.2.1,fz.2.2.2.2.2⟩
    ·exact⟨fo.2.2.2.1,fo.2.1,fo.2.2.2.2.1,fo.2.2.2.2.2⟩
    ·exact⟨fi.2.2.2.1,fi.2.1,fi.2.2.2.2.1,fi.2.2.2.2.2⟩
    ·exact⟨fj.2.2.2.1,fj.2.1,fj.2.2.2.2.1,fj.2.2.2.2.2⟩
   ·obtain⟨ob,es,ep,hoL,r⟩:=hm
    exact⟨ob,es,ep,up _ ob (Ne.symm fz.2.1) (Ne.symm fo.2.1) (Ne.symm fi.2.1) (Ne.symm fj.2.1) hoL,r⟩
   ·by_cases hb:c=s.heap.objs.size
    ·subst hb
     rw[Ab] at q;cases q;exact⟨Ci (by show 2<=1000; decide),[v,v'],.cons ru (.cons ru' .nil),_,htup,rfl,_,rfl⟩
    ·rw[Ar hb] at q
     refine (I.hok c ob q).stay (fun d w' hd q2=>?_) (fun d q2=>by rw[Ar (Ap q2 hnT)]; exact q2) (fun d zs q2=>by rw[Ar (Ap q2 hnT)]; exact q2);rcases hd with rfl | hd
     ·exact up3 _ w' _ q q2
     ·exact up3 _ w' _ hd q2
  refine⟨.ref s.heap.objs.size,_,I1,rfl,⟨_,x,y,rfl,hnT,fun zs hy'=>by rw[I.list_inj hy' hq1]; exact hx,fun zs hy'=>by rw[I.list_inj hy' hq2]; exact hy,rfl⟩,⟨hz2,?_,⟨v,v',?_⟩,?_,?_⟩,fun c hc=>?_⟩
  ·exact (hs2'.2 u D.uz).trans (hk u _ D.uz D.uo D.ui D.uj su)
  ·exact (hs2'.2 o D.oz).trans a2
  ·exact a3.at fun ob q=>(hs2'.2 i D.iz).trans q
  ·exact a4.at fun ob q=>(hs2'.2 j D.jz).trans q
  ·have hl:c<s.heap.objs.size:=by
    simp only [zAo,zBa,or_false] at hc;rcases hc with rfl | rfl | rfl | rfl | rfl
    ·exact zAq sz
    ·exact zAq su
    ·exact zAq so
    ·obtain⟨_,q,_⟩:=s1; exact zAq q
    ·obtain⟨_,q,_⟩:=s2; exact zAq q
   rw[Ar (zAu hl)];exact (hf c hc).1
 done:=by
  intro X hP hw hK hc k pins s σ H E I hf st hg;subst hP hw hK;obtain⟨xs,ys,hq1,hq2,hle⟩:=hg;obtain⟨its,rv,p,hz⟩:=I.list hq1;obtain⟨jts,rv',p',hz'⟩:=I.list hq2;have DD:=Vh D st p.isList p'.isList;obtain⟨sz,su,⟨x0,y0,so⟩,s1,s2⟩:=id st;have fz:=hf z (by simp);have fo:=hf o (by simp);have fi:=hf i (by simp);have fj:=hf j (by simp);have hl:=rv.length;have hl':=rv'.length;refine wpAny_pyNext_zip_end (I.ok.hd hc) DD sz su so s1 s2 p.isList p'.isList ?_ fun h' hk=>⟨rfl,?_⟩
  ·rcases hle with e | e
   ·exact .inl (by simp; lia)
   ·exact .inr (by simp; lia)
  ·have nch:∀ c,c∉[z,o,i,j]->c≠z/\c≠o/\c≠i/\c≠j:=fun c hc=>by
    simp only [zAo,zBa,or_false,not_or] at hc;exact hc
   have ntr:∀ c ob,H c=some ob->c≠z/\c≠o/\c≠i/\c≠j:=fun c ob q=>
    ⟨fun e=>by (rw[e,fz.1] at q; cases q),fun e=>by (rw[e,fo.1] at q; cases q),fun e=>by (rw[e,fi.1] at q; cases q),fun e=>by (rw[e,fj.1] at q; cases q)⟩
   have up2:∀ c ob,c∉[z,o,i,j]->s.heap.get? c=some ob->h'.get? c=some ob:=fun c ob hc q=>hk c ob (nch c hc).1 (nch c hc).2.1 (nch c hc).2.2.1 (nch c hc).2.2.2 q;have up3:∀ c ob ob',H c=some ob'->s.heap.get? c=some ob->h'.get? c=some ob:=fun c ob ob' hc q=>hk c ob (ntr c ob' hc).1 (ntr c ob' hc).2.1 (ntr c ob' hc).2.2.1 (ntr c ob' hc).2.2.2 q;refine I.step (H':=H) (ch:=[z,o,i,j]) (fun c hc=>?_) (fun c ob _ _ hc q _=>up2 c ob hc q) (fun c ob _ _ hc q _=>⟨ob.slots,up2 c ob hc q⟩) (fun c ob _ q n=>n)
    (fun c ob hc q=>⟨ob,up2 c ob hc q⟩) (fun c xs q=>q) (fun c ob u q=>q) (fun c ps q=>⟨#[],by rw[q]; simp⟩)
    (fun m hm=>?_) (fun c ob q=>?_) I.bare
   ·simp only [zAo,zBa,or_false] at hc
    rcases hc with rfl | rfl | rfl | rfl
    ·exact⟨fz.2.2.2.1,fz.2.1,fz.2.2.2.2.1,fz.2.2.2.2.2⟩
    ·exact⟨fo.2.2.2.1,fo.2.1,fo.2.2.2.2.1,fo.2.2.2.2.2⟩
    ·exact⟨fi.2.2.2.1,fi.2.1,fi.2.2.2.2.1,fi.2.2.2.2.2⟩
    ·exact⟨fj.2.2.2.1,fj.2.1,fj.2.2.2.2.1,fj.2.2.2.2.2⟩
   ·obtain⟨ob,es,ep,hoL,r⟩:=hm
    exact⟨ob,es,ep,hk _ ob (Ne.symm fz.2.1) (Ne.symm fo.2.1) (Ne.symm fi.2.1) (Ne.symm fj.2.1) hoL,r⟩
   ·refine (I.hok c ob q).stay (fun d w' hd q2=>?_) (fun d q2=>q2) (fun d zs q2=>q2)
    rcases hd with rfl | hd
    ·exact up3 _ w' _ q q2
    ·exact up3 _ w' _ hd q2
 self:=fun _ _ _ _ _ st h=>wpAny_pyIter_zip st.1 h
def PX (K:zAa) (ta:TA):TI:=fun σ H R=>ta σ H fun vs H1=>∃ a b,vs=[.ref a,.ref b]/\(∃ xs,SqL K H1 a xs)/\(∃ ys,SqL K H1 b ys)/\R (NW K a b) H1
theorem JJ {X:Cx} {e1 e2:Expr} {ta:TA} {p pos tp:Pos} {elts:List Expr} {n:Nat} (hg:Gl X "zip") (hm:X.mg "zip" = none) (ha:PA X [e1,e2] ta) (hs:starEach [e1,e2] X.env=[(false,eval e1 X.env),(false,eval e2 X.env)]:=by rfl) (hs2:starEach [e2] X.env=[(false,eval e2 X.env)]:=by rfl) :
  PI X (.Tuple elts n tp) (.Call (.Name "zip" p) [e1,e2] [] pos) (PX X.K ta):=by
 intro pins s σ H R I h;refine Call_ (Hu I hg hm (show zCB "zip" = some (.type "zip") from rfl) (PyProof.Rows.callWith_type1 (Cs (ha pos pins s σ H _ I h) fun us s1 ⟨vs,H1,I1,r1,q1⟩=>?_) (by rw[hs,hs2]) (by rw[hs2]; rfl)));obtain⟨a,b,ev,⟨xs,hq1⟩,⟨ys,hq2⟩,q⟩:=q1;subst ev;cases r1 with
 | cons ra rr=>
  cases rr with
  | cons rb rr=>
   cases rr
   cases ra
   cases rb
   obtain⟨its,rv,pl,hz⟩:=I1.list hq1;obtain⟨jts,rv',pl',hz'⟩:=I1.list hq2;refine call_zip_2 pl.isList pl'.isList fun h' b1 b2 b3 b4 b5 b6 hk=>?_;refine wpAny_pyIter_zip b1 ?_;have I2:Inv X pins σ H1 { s1 with heap:=h' }:=I1.kept (t':=s1.toks) hk;refine⟨_,[s1.heap.objs.size+4,s1.heap.objs.size+2,s1.heap.objs.size+3,s1.heap.objs.size,s1.heap.objs.size+1],_,_,H1,rfl,I2,FO a b (s1.heap.objs.size+4) (s1.heap.objs.size+2) (s1.heap.objs.size+3) s1.heap.objs.size (s1.heap.objs.size+1) (KO _),⟨b1,b2,⟨_,_,b3⟩,b4,b5⟩,fun c hc=>?_,q⟩;have le:s1.heap.objs.size<=c:=by
    simp only [zAo,zBa,or_false] at hc;rcases hc with rfl | rfl | rfl | rfl | rfl <;> lia
   exact I1.fpOk le (I1.hok.fresh le)
theorem GK {K K':zAa} {a b:Addr} {xs ys:List V} {i1 i2:Nat} {tb:TS} {D:Nj} {σ:St} {H:Hp} (Pv:Nat->St->Hp->Prop) (h0:Pv 0 σ H) (hl:∀ i σ H,i<=min xs.length ys.length->Pv i σ H->SqL K H a xs/\SqL K H b ys)
  (hs:∀ i x y σ H t,xs[i]?=some x->ys[i]?=some y->Pv i σ H->H t=none->tb { D with nx:=Pv (i+1),ct:=Pv (i+1),bk:=D.nx } ((σ.set i1 (some x)).set i2 (some y)) (upd H t (.tup [x,y]))) (hd:∀ σ H,Pv (min xs.length ys.length) σ H->D.nx σ H) :
  ∃ W:Nat->Nat->St->Hp->Prop,(∃ m,W 0 m σ H)/\∀ i m σ H,W i m σ H ->
   ((NW K a b).stop i H/\D.nx σ H)\/((NW K a b).go i H/\∃ N:St->Hp->Prop,(∀ σ' H',N σ' H'->∃ m',m'<m/\W (i+1) m' σ' H')/\∀ x H',(NW K a b).yld i H x H'->AR K' 2 (Mv (Ey i1) (Mv (Ey i2) EJ)) x σ H' fun σ2 H2=>tb { D with nx:=N,ct:=N,bk:=D.nx } σ2 H2):=by
 refine⟨fun i m σ H=>m=min xs.length ys.length-i/\i<=min xs.length ys.length/\Pv i σ H,⟨min xs.length ys.length,rfl,zAB _,h0⟩,?_⟩;rintro i m σ H ⟨rfl,hi,p⟩;obtain⟨q1,q2⟩:=hl i σ H hi p;by_cases hlt:i<min xs.length ys.length
 ·have l1:i<xs.length:=by lia
  have l2:i<ys.length:=by lia
  refine .inr ⟨⟨xs,ys,xs[i],ys[i],q1,q2,by simp [l1],by simp [l2]⟩,Pv (i+1),fun σ' H' p'=>⟨min xs.length ys.length-(i+1),by lia,rfl,by lia,p'⟩,fun v H' y=>?_⟩;obtain⟨t,x,z,ex,ht,hx,hz,e3⟩:=y;subst ex e3;exact⟨t,_,rfl,SqT.of Ab,rfl,_,_,rfl,_,_,rfl,rfl,hs i x z σ H t (hx xs q1) (hz ys q2) p ht⟩
 ·obtain rfl:i=min xs.length ys.length:=by lia
  exact .inl ⟨⟨xs,ys,q1,q2,by lia⟩,hd σ H p⟩
theorem S1 (l:List Nat):∀ n:Nat,(zAv n l.toArray).foldl (· ++ ·) #[]=((zAv n l).flatten).toArray:=fun n=>by
 have go:∀ (n:Nat) (a:List Nat),(zAv n l.toArray).foldl (· ++ ·) a.toArray=(a++(zAv n l).flatten).toArray:=fun n=>by
  induction n with
  | zero=>intro a; simp
  | succ n ih=>
   intro a;rw[zBs,List.foldl_cons,zBs,zBy,<- zBA];have e:a.toArray++l.toArray=(a++l).toArray:=by simp
   rw[e];exact ih (a++l)
 have z:=go n []
 simpa using z
theorem Qz {X:Cx}:Ko X (binaryOp .Mult) (fun x y H Q=>∃ (l:List Nat) (n:Int),x = .str (tx l)/\y = .int n/\1<=n/\n<=1000/\l.length<=1000/\Q (.str (tx (zAv n.toNat l).flatten)) H):=by
 intro pins s σ H x y v u Q I rx ry h;obtain⟨l,n,rfl,rfl,h1,h2,h3,q⟩:=h;obtain⟨t,rfl⟩:=rx;obtain⟨t',rfl⟩:=ry;have hl:(tx l).length=l.length:=Ft l;have small:l.length*n.toNat<=1000*1000:=Nat.mul_le_mul h3 (by lia);refine PySem.P.mul_str ?_ (fun _ _=>?_) (fun _ _=>?_) ?_
 ·rw[decide_eq_false (by lia),decide_eq_false (by lia)]; rfl
 ·rw[hl]
  have:(1000:Int)<=(2^63-1)/n:=Int.le_ediv_of_mul_le (by lia) (by lia)
  lia
 ·rw[hl]
  unfold Builtin.Str.tooLong;simp only [decide_eq_false_iff_not];have:=zCA
  lia
 ·rw[if_neg (by lia)]
  by_cases c:(n==1||(tx l).length==0)=true
  ·rw[if_pos c]
   refine⟨.str (tx (zAv n.toNat l).flatten),H,I,⟨t,?_⟩,q⟩;have e:(zAv n.toNat l).flatten=l:=by
    rcases (Bool.or_eq_true _ _).mp c with z | z
    ·have z':n=1:=by simpa using z
     subst z';simp
    ·have z':l=[]:=by
      rw[hl] at z;exact List.eq_nil_of_length_eq_zero (by simpa using z)
     subst z';simp
   rw[e]
  ·rw[if_neg c]
   refine⟨?_,.str (tx (zAv n.toNat l).flatten),H,I.tok _,⟨s.toks,?_⟩,q⟩
   ·have e:=S1 l n.toNat
    show (⟨(zAv n.toNat (tx l).cps).foldl (· ++ ·) #[]⟩:Str).length<=sizeLine;unfold tx;rw[e];have e2:(⟨((zAv n.toNat l).flatten).toArray⟩:Str)=tx (zAv n.toNat l).flatten:=rfl;rw[e2,Ft,GS,zCA,Nat.mul_comm]
    lia
   ·show Value.str ⟨(zAv n.toNat (tx l).cps).foldl (· ++ ·) #[]⟩ _=Value.str (tx _) _
    have e:=S1 l n.toNat;unfold tx at *;rw[e]
section
variable {prog:Program} {w:World} {A:Around} {E:Value->Shared->Prop} {s:Shared}
end
section
variable {X:Cx} {pins:List (Addr×Obj)} {σ:St} {H:Hp} {s:Shared}
end
section
variable {P:Program} {w:World} {K:zAa} {mg:Str->Option Value} {base:Heap} {N ps:List Str} {qual:Str} {scope:Scope} {f:Addr} {cd:Value} {A:Around} {outer:List Env} {s0:Shared} {H0:Hp} {E:XK} {k:Nat} {sp:Sp} {x:Str} {st:Stmt} {fd:zCC}
end
section
variable {X:Cx} {k:Nat} {f:Addr} {fd:zCC} {ps:List Str} {sp:Sp} {x:Str} {p pos:Pos} {e:Expr} {es:List Expr} {t:TA} {W:St->XK}
end
section
variable {prog:Program} {w:World} {A:Around} {E:Value->Shared->Prop} {env:Env}
variable {nm q:Str} {C N:Addr} {bs bm bmB:List Value} {hdct:Bool} {sn:List Str} {sub:List Value} {ab:Bool} {col:Option Bool} {dd:Option Addr} {k0 k1 k2 k3 k5:Option Value} {B newId initId:String}
end
section
variable {X:Cx} {x n:Str} {Ch:Addr} {i:Nat} {body suite:List Stmt} {b₀ : Stmt} {tb:(St->XK)->TS} {ts:TS} {np hpos pos:Pos} {pins:List (Addr×Obj)} {σ:St} {H:Hp} {s:Shared} {e:Addr} {oe:Obj}
end
end L2
namespace L2
open PySem PySem.Spec PyProof.Rows PySem.W
section
variable {X:Cx} {pins:List (Addr×Obj)} {σ:St} {H H':Hp} {s:Shared}
end
section
variable {X:Cx} {pins:List (Addr×Obj)} {σ:St} {H:Hp} {s:Shared}
end
section
variable {prog:Program} {w:World} {A:Around} {E:Value->Shared->Prop} {s:Shared}
end
section
variable {X:Cx} {pins:List (Addr×Obj)} {σ:St} {H:Hp} {s:Shared}
end
section
variable {X:Cx}
end
theorem Z5 {X:Cx} {k:Nat} {x:Str} {C:Addr} {ps:List Str} {sp:Sp} {p pos:Pos} (M:Ek X.prog X.w X.K X.mg X.base k x C ps sp) (hr:Room (k+1) X.A) (hg:Gl X x) (hdb:(x==("__debug__" : Str))=false:=by decide) :
  PE X (.Call (.Name x p) [] [] pos) (W5 C sp [] E0 JS):=by
 obtain⟨f,fd,mk,F,b,hm⟩:=M.ex;exact ER mk F hr hg hm b .nil Vj hdb
end L2
namespace CRL
open PySem L2
def HL (H H':Hp):Prop:=∀ t xs,H t=some (.tup xs)->H' t=some (.tup xs)
theorem Bq {H H':Hp} (s:Same H H'):HL H H':=fun t xs h=>s t _ h
theorem Df {H:Hp} {l:Addr} {xs:List V} (h:H l=some (.lst xs)) (o:HO):HL H (upd H l o):=fun t zs z=>by
 rw[Ar (He z h (by intro e; cases e))];exact z
abbrev Tr:=Int×Int×Int
def Trs (H:Hp):List V->List Tr->Prop
 | [],[]=>True
 | x::xs,p::ps=>(∃ t,x = .ref t/\H t=some (.tup [.int p.1,.int p.2.1,.int p.2.2]))/\Trs H xs ps
 | _,_=>False
theorem Trs.len {H:Hp}:∀ {xs:List V} {ps:List Tr},Trs H xs ps->xs.length=ps.length
 | [],[],_=>rfl
 | [],_::_,h=>h.elim
 | _::_,[],h=>h.elim
 | x::xs,p::ps,h=>by rw[zAf,zAf,Trs.len h.2]
theorem Trs.mono {H H':Hp} (s:HL H H'):∀ {xs:List V} {ps:List Tr},Trs H xs ps->Trs H' xs ps
 | [],[],_=>trivial
 | [],_::_,h=>h.elim
 | _::_,[],h=>h.elim
 | x::xs,p::ps,⟨⟨t,e,h⟩,r⟩=>⟨⟨t,e,s _ _ h⟩,Trs.mono s r⟩
theorem Trs.get {H:Hp}:∀ {xs:List V} {ps:List Tr} {i:Nat} {x:V},Trs H xs ps->xs[i]?=some x->∃ t p,ps[i]?=some p/\x = .ref t/\H t=some (.tup [.int p.1,.int p.2.1,.int p.2.2])
 | [],[],_,_,_,e=>by simp at e
 | [],_::_,_,_,h,_=>h.elim
 | _::_,[],_,_,h,_=>h.elim
 | x::xs,p::ps,0,y,⟨⟨t,e,h⟩,r⟩,q=>by
  simp at q;subst q;exact⟨t,p,rfl,e,h⟩
 | x::xs,p::ps,i+1,y,⟨_,r⟩,q=>by
  obtain⟨t,p',h1,h2⟩:=Trs.get (i:=i) r (by simpa using q);exact⟨t,p',by simpa using h1,h2⟩
theorem Trs.snoc {H:Hp}:∀ {xs:List V} {ps:List Tr} {t:Addr} {a b c:Int},Trs H xs ps->H t=some (.tup [.int a,.int b,.int c])->Trs H (xs++[.ref t]) (ps++[(a,b,c)])
 | [],[],t,_,_,_,_,h=>⟨⟨t,rfl,h⟩,trivial⟩
 | [],_::_,_,_,_,_,r,_=>r.elim
 | _::_,[],_,_,_,_,r,_=>r.elim
 | x::xs,p::ps,_,_,_,_,⟨z,r⟩,h=>⟨z,Trs.snoc r h⟩
end CRL
namespace L2
open PySem PySem.Spec PyProof.Rows PySem.W
section
variable {P:Program} {w:World} {K:zAa} {mg:Str->Option Value} {base:Heap} {k:Nat} {f:Addr} {fd:zCC} {ps:List Str} {sp sp1 sp2:Sp}
end
section
variable {X:Cx} {k:Nat} {f C:Addr} {fd:zCC} {ps:List Str} {sp:Sp} {x:Str} {p pos:Pos} {e:Expr} {es:List Expr} {t:TA} {W:St->XK} {dvs:List V} {ds:List Value}
end
end L2
namespace CST
open PySem
abbrev Rs (xs:Array Nat):Prop:=xs.toList.Pairwise (· < ·)
theorem Q3 {xs:Array Nat} (h:Rs xs) {i k:Nat} (hik:i<k) (hk:k<xs.size):xs[i]'(by lia)<xs[k]:=by
 have:=zBb.mp h i k (by simpa using (by lia:i<xs.size)) (by simpa using hk) hik
 simpa using this
structure QN (xs:Array Nat) (j p:Nat):Prop where
 le:p<=xs.size
 lo:∀ i (h:i<xs.size),i<p->xs[i]<j
 hi:∀ i (h:i<xs.size),p<=i->j<=xs[i]
theorem Sl {xs:Array Nat} {j:Nat} (r:Rs xs):∀ (f lo hi:Nat),hi-lo<=f->lo<=hi->hi<=xs.size->(∀ i (h:i<xs.size),i<lo->xs[i]<j)->(∀ i (h:i<xs.size),hi<=i->j<=xs[i])->QN xs j (SetTable.below.go xs j f lo hi)
 | 0,lo,hi,h0,h1,h2,a,b=>by
  have e:lo=hi:=by omega
  subst e;unfold SetTable.below.go;exact⟨h2,a,b⟩
 | f+1,lo,hi,h0,h1,h2,a,b=>by
  unfold SetTable.below.go;by_cases c:lo<hi
  ·rw[if_pos c]
   have hm:(lo+hi)/2<xs.size:=by omega
   have e:xs.getD ((lo+hi)/2) j=xs[(lo+hi)/2]:=by simp [zCa,hm]
   dsimp only
   rw[e];by_cases d:xs[(lo+hi)/2]<j
   ·rw[if_pos d]
    refine Sl r f _ hi (by omega) (by omega) h2 (fun i h hi'=>?_) b;by_cases q:i=(lo+hi)/2
    ·subst q; exact d
    ·exact Nat.lt_trans (Q3 r (by omega) hm) d
   ·rw[if_neg d]
    refine Sl r f lo _ (by omega) (by omega) (by omega) a (fun i h hi'=>?_);by_cases q:i=(lo+hi)/2
    ·subst q; omega
    ·have:=Q3 r (i:=(lo+hi)/2) (k:=i) (by omega) h
     omega
  ·rw[if_neg c]
   have e:lo=hi:=by omega
   subst e;exact⟨h2,a,b⟩
theorem Sg {xs:Array Nat} {j:Nat} (r:Rs xs):QN xs j (SetTable.below xs j):=by
 unfold SetTable.below;exact Sl r _ _ _ (by lia) (zAB _) (zAn _) (fun i _ h=>absurd h (zBm _)) (fun i h h'=>absurd h' (by lia))
structure Kv (by_:Bool) (t:SetTable):Prop where
 rs:Rs t.place
 dm:t.dummies = #[]
 ld:by_=false->t.led=true
theorem Te (b:Bool):Kv b (.fresh 0 0 (!b)):=⟨List.Pairwise.nil,rfl,fun h=>by rw[h]; rfl⟩
theorem Gb {b:Bool} {t:SetTable} (g:Kv b t) (n:Nat):Kv b (t.standIn n):=by
 refine⟨?_,rfl,g.ld⟩;show (Array.range n).toList.Pairwise (· < ·);rw[Array.toList_range];exact List.pairwise_lt_range
theorem N4 {b:Bool} {t:SetTable} (g:Kv b t) (p:Bool):Kv b { t with plain:=p }:=⟨g.rs,g.dm,g.ld⟩
theorem E3 (j:Nat):SetTable.has #[] j=false:=by
 unfold SetTable.has;have:(#[]:Array Nat)[SetTable.below #[] j]?=none:=by simp
 rw[this];rfl
theorem L3 {t:SetTable} {j:Nat} (dm:t.dummies = #[]):t.slot j = .empty\/∃ i,t.slot j = .live i:=by
 unfold SetTable.slot
 dsimp only
 by_cases c:(t.place[SetTable.below t.place j]?==some j)=true
 ·rw[if_pos c]; exact .inr ⟨_,rfl⟩
 ·rw[if_neg c,dm,E3]
  exact .inl rfl
theorem L5 {t:SetTable} {j:Nat} (r:Rs t.place) (h:t.slot j = .empty):∀ i (hi:i<t.place.size),t.place[i]≠j:=fun i hi e=>by
 have b:=Sg (j:=j) r;have hp:SetTable.below t.place j<=i:=by
  rcases Nat.lt_or_ge i (SetTable.below t.place j) with z | z
  ·have:=b.lo i hi z; lia
  ·exact z
 have hps:SetTable.below t.place j<t.place.size:=by lia
 have e2:t.place[SetTable.below t.place j]=j:=by
  have h1:=b.hi _ hps (zAn _);rcases Nat.lt_or_eq_of_le hp with z | z
  ·have:=Q3 r z hi; lia
  ·have:t.place[SetTable.below t.place j]=t.place[i]:=by congr 1
   lia
 unfold SetTable.slot at h
 dsimp only at h
 have c:(t.place[SetTable.below t.place j]?==some j)=true:=by
  rw[zAV hps,e2];simp
 rw[if_pos c] at h;cases h
theorem Za {t:SetTable} {ha:Nat->Int} {h:Int} (dm:t.dummies = #[]):∀ (f:Nat) (p:SetTable.Probe) (j:Nat) (d:Option Nat),p.dummy=none->SetTable.probe.go t ha h f p=some (.empty j d)->d=none/\t.slot j = .empty
 | 0,p,j,d,_,e=>by unfold SetTable.probe.go at e; cases e
 | f+1,p,j,d,hp,e=>by
  unfold SetTable.probe.go at e;have adv:(t.advance p).dummy=none:=by
   unfold SetTable.advance
   split
   ·exact hp
   ·exact hp
  rcases L3 (t:=t) (j:=p.j) dm with z | ⟨i,z⟩
  ·rw[z] at e
   dsimp only at e
   injection e with e;injection e with e1 e2;subst e1;exact⟨e2▸hp,z⟩
  ·rw[z] at e
   dsimp only at e
   split at e
   ·injection e with e; cases e
   ·exact Za dm f _ j d adv e
theorem LI {t:SetTable} {j:Nat} (r:Rs t.place) (h:∀ i (hi:i<t.place.size),t.place[i]≠j):Rs (t.put j).1.place:=by
 have b:=Sg (j:=j) r;show (SetTable.insertAt t.place (SetTable.below t.place j) j).toList.Pairwise (· < ·);rw[SetTable.toList_insertAt];have e1:∀ x∈t.place.toList.take (SetTable.below t.place j),x<j:=fun x hx=>by
  obtain⟨i,hi,ei⟩:=zAU hx;rw[List.getElem_take] at ei;have hi':i<SetTable.below t.place j/\i<t.place.size:=by
   rw[zAx,zAC] at hi; lia
  have:=b.lo i hi'.2 hi'.1;rw[<- ei]
  simpa using this
 have e2:∀ x∈t.place.toList.drop (SetTable.below t.place j),j<x:=fun x hx=>by
  obtain⟨i,hi,ei⟩:=zAU hx;rw[List.getElem_drop] at ei;have hi':SetTable.below t.place j+i<t.place.size:=by
   rw[zBn,zAC] at hi; lia
  have h1:=b.hi _ hi' (Nat.le_add_right _ _);have h2:=h _ hi';rw[<- ei];have:j<t.place[SetTable.below t.place j+i]:=by lia
  simpa using this
 refine List.pairwise_append.mpr ⟨r.sublist (List.take_sublist _ _),zAJ.mpr ⟨e2,r.sublist (zBR _ _)⟩,fun a ha b' hb=>?_⟩;rcases zAo.mp hb with z | z
 ·rw[z]; exact e1 a ha
 ·exact Nat.lt_trans (e1 a ha) (e2 b' z)
theorem Zs {b:Bool} {t:SetTable} {j:Nat} (g:Kv b t) (h:t.slot j = .empty):Kv b (t.put j).1:=by
 refine⟨LI g.rs (L5 g.rs h),?_,g.ld⟩;show (if SetTable.has t.dummies j then _ else t.dummies) = #[];rw[g.dm,E3];rfl
set_option tactic.hygienic true in
theorem Zq {b:Bool} {t:SetTable} (g:Kv b t) (es:Array (Int×Value)) (h:Int) (x:Value):Kv b (layNew t es h x).2.1/\(layNew t es h x).2.2.1=false:=by
 unfold layNew;cases e:t.freeSlot h with
 | none=>exact⟨Gb g _,rfl⟩
 | some p=>
  obtain⟨sl,wd⟩:=p;unfold SetTable.freeSlot at e
  split at e
  ·rename_i j d hp
   injection e with e;injection e with e1 e2;obtain⟨hd,hs⟩:=Za g.dm _ _ j d rfl hp;subst hd
   dsimp only at e1 e2 ⊢
   have e1':j=sl:=e1;subst e1';refine⟨?_,e2.symm⟩;unfold SetTable.orStandIn
   split
   ·exact Zs g hs
   ·exact Gb (Zs g hs) _
  ·cases e
theorem Ra (o:Nat->Option Nat):∀ l:List Nat,((l.filterMap fun j=>(o j).map (j,·)).map (·.1)).Sublist l
 | []=>List.Sublist.slnil
 | j::l=>by
  rw[zCg];cases e:o j with
  | none=>exact (Ra o l).cons j
  | some k=>exact (Ra o l).cons₂ j
theorem Ud {b:Bool} {t:SetTable} (g:Kv b t) (es:Array (Int×Value)) (wanted:Nat):Kv b (relayAll t es wanted).2.1:=by
 unfold relayAll;cases e:t.relaid (es.map (·.1)) wanted with
 | none=>exact Gb g _
 | some p=>
  obtain⟨t',order⟩:=p
  dsimp only
  split
  ·unfold SetTable.relaid SetTable.laid at e
   cases e2:SetTable.layClean (SetTable.sizeAbove wanted-1) (es.map (·.1)) with
   | none=>rw[e2] at e; cases e
   | some owner=>
    rw[e2] at e;have e3:=Option.some.inj e;injection e3 with e4 _;subst e4;refine⟨?_,rfl,g.ld⟩;show (List.toArray _).toList.Pairwise (· < ·);rw[List.toList_toArray];exact List.pairwise_lt_range.sublist (Ra _ _)
  ·exact Gb g _
section
variable {prog:Program} {w:World} {K:Type} [DecidableEq K] (knd:KeyKind prog w K)
def JA (e:Int×Value) (k:K):Prop:=knd.is k e.2=true/\e.1=knd.hash k/\e.2.scannable=true
def GSet (h:Heap) (a:Addr) (ks:List K):Prop:=∃ o es ep t,h.get? a=some o/\o.ExactSet/\o.data = .set es ep t/\Paired (JA knd) es.toList ks/\ks.Nodup/\es.size<scanBound/\t.fits es.size=true/\Kv (w.params.followText "set-order") t
variable {knd}
variable {A:Around} {E:Value->Shared->Prop} {s:Shared}
theorem Pd {α β:Type} {F:α->β->Prop}:∀ {l l':List α} {ks:List β},l'.Perm l->Paired F l ks->∃ ks',ks'.Perm ks/\Paired F l' ks':=by
 intro l l' ks p;have q:=p.symm;clear p
 induction q generalizing ks with
 | nil=>intro h; exact⟨ks,List.Perm.refl _,h⟩
 | cons x _ ih=>
  intro h;cases h with
  | cons r t=>
   obtain⟨ks',p',h'⟩:=ih t;exact⟨_,p'.cons _,.cons r h'⟩
 | swap x y l=>
  intro h;cases h with
  | cons r t=>
   cases t with
   | cons r2 t2=>exact⟨_,List.Perm.swap _ _ _,.cons r2 (.cons r t2)⟩
 | trans _ _ ih1 ih2=>
  intro h;obtain⟨k1,p1,h1⟩:=ih1 h;obtain⟨k2,p2,h2⟩:=ih2 h1;exact⟨k2,p2.trans p1,h2⟩
theorem Pg {α β:Type} {F:α->β->Prop} {a:α} {b:β} (r:F a b):∀ {l:List α} {ks:List β},Paired F l ks->Paired F (l++[a]) (ks++[b])
 | _,_,.nil=>.cons r .nil
 | _,_,.cons q t=>.cons q (Pg r t)
theorem Lc {α β:Type} {F:α->β->Prop}:∀ {l:List α} {ks:List β},Paired F l ks->∀ a∈l,∃ b∈ks,F a b
 | _,_,.nil,_,h=>nomatch h
 | _,_,.cons q t,a,h=>by
  rcases zAo.mp h with z | z
  ·subst z; exact⟨_,zAj,q⟩
  ·obtain⟨b,hb,r⟩:=Lc t a z
   exact⟨b,zAg _ hb,r⟩
theorem Pc {α β:Type} {F:α->β->Prop}:∀ {l:List α} {ks:List β},Paired F l ks->∀ b∈ks,∃ a∈l,F a b
 | _,_,.nil,_,h=>nomatch h
 | _,_,.cons q t,a,h=>by
  rcases zAo.mp h with z | z
  ·subst z; exact⟨_,zAj,q⟩
  ·obtain⟨b,hb,r⟩:=Pc t a z
   exact⟨b,zAg _ hb,r⟩
theorem LW {l:List (Int×Value)} {ks:List K} (h:Paired (JA knd) l ks):ElemsOf knd l:=fun e he=>by
 obtain⟨k,_,r1,r2,r3⟩:=Lc h e he;exact⟨⟨k,r1,r2⟩,r3⟩
theorem C8 {l:List (Int×Value)} {ks:List K} {k:K} (h:Paired (JA knd) l ks):(l.findIdx? fun e=>knd.is k e.2)=none↔k∉ks:=by
 rw[List.findIdx?_eq_none_iff];constructor
 ·intro z hk
  obtain⟨e,he,r⟩:=Pc h k hk;have:=z e he;rw[r.1] at this;cases this
 ·intro z e he
  obtain⟨k',hk',r⟩:=Lc h e he;cases c:knd.is k e.2 with
  | false=>rfl
  | true=>exact absurd (knd.inj _ _ _ c r.1▸hk') z
theorem stored {h:Heap} {a:Addr} {o:Obj} {es es':Array (Int×Value)} {ep:Nat} {t t':SetTable} {ks:List K} (ho:h.get? a=some o) (hex:o.ExactSet) (hd:o.data = .set es ep t) (hp:Paired (JA knd) es'.toList ks) (nd:ks.Nodup) (hb:es'.size<scanBound) (hf:t'.fits es'.size=true)
  (g:Kv (w.params.followText "set-order") t'):(h.update a (Obj.putSet es' t')).get? a=some { o with data:=.set es' (ep+1) t' }/\GSet knd (h.update a (Obj.putSet es' t')) a ks:=by
 have hg:(h.update a (Obj.putSet es' t')).get? a=some { o with data:=.set es' (ep+1) t' }:=by
  have q:=zBT (Obj.putSet es' t') ho (by rw[putSet_of es' t' hd]; rfl)
  rwa [putSet_of es' t' hd] at q
 exact⟨hg,_,es',ep+1,t',hg,hex,rfl,hp,nd,hb,hf,g⟩
theorem E5 {a:Addr} {o:Obj} {es es1:Array (Int×Value)} {ep:Nat} {t t2:SetTable} {ks1:List K} (ho:s.heap.get? a=some o) (hex:o.ExactSet) (hd:o.data = .set es ep t) (hp:Paired (JA knd) es1.toList ks1) (nd:ks1.Nodup) (hb:es1.size<scanBound) (hf:t2.fits es1.size=true)
  (g:Kv (w.params.followText "set-order") t2) {wd:Bool} {gw:Bool->Sem Unit} (hgw:∀ (b:Bool) (s₁ : Shared) (Q':Unit->Shared->Prop),Q' () s₁ -> wpAny (model prog w) A (gw b) Q' E s₁) {R:Option Bool->Shared->Prop}
  (h:∀ h' ks',zAQ a s.heap h'->GSet knd h' a ks'->ks'.Perm ks1->R (some true) { s with heap:=h' }) :
  wpAny (model prog w) A (do
   storeSet a es1 t2
   if (!wd&&t2.tooFull)=true then do
    gw (relayAll t2 es1 (SetTable.grown es1.size)).2.2
    storeSet a (relayAll t2 es1 (SetTable.grown es1.size)).1 (relayAll t2 es1 (SetTable.grown es1.size)).2.1
    pure (some true)
   else pure (some true)) R E s:=by
 obtain⟨ho1,G1⟩:=stored (knd:=knd) ho hex hd hp nd hb hf g;have sb:=zAQ.update s.heap a (Obj.putSet es1 t2);refine zCy (wpAny_storeSet_of ho hd ?_ (fits_of_scanBound hb));by_cases c:(!wd&&t2.tooFull)=true
 ·rw[if_pos c]
  have p2:=relayAll_perm t2 es1 (SetTable.grown es1.size);have f2:=relayAll_fits t2 es1 (SetTable.grown es1.size);have g2:=Ud g es1 (SetTable.grown es1.size);generalize relayAll t2 es1 (SetTable.grown es1.size)=Y at p2 f2 g2;obtain⟨es2,t3,gv⟩:=Y
  dsimp only at p2 f2 g2
  have z2:es2.size=es1.size:=by rw[<- zAC,p2.length_eq,zAC]
  obtain⟨ks2,q2,hp2⟩:=Pd p2 hp;refine zCy (hgw _ _ _ (zCy (wpAny_storeSet_of ho1 rfl ?_ (fits_of_scanBound (by rw[z2]; exact hb)))));obtain⟨_,G2⟩:=stored (knd:=knd) ho1 hex rfl hp2 (q2.nodup_iff.mpr nd) (by rw[z2]; exact hb) f2 g2;exact zCz (h _ ks2 (sb.trans (zAQ.update _ a _)) G2 q2)
 ·rw[if_neg c]
  exact zCz (h _ ks1 sb G1 (List.Perm.refl _))
theorem II {a:Addr} {ks:List K} {k:K} {x:Value} {Q:Bool->Shared->Prop} (hkey:knd.is k x=true) (hsc:x.scannable=true) (hS:GSet knd s.heap a ks) (hroom:ks.length+1<scanBound)
  (h:∀ b h' ks',zAQ a s.heap h'->GSet knd h' a ks'->ks'.Perm (if k∈ks then ks else ks++[k])->Q b { s with heap:=h' }) :
  wpAny (model prog w) A (setAddHashed a x (knd.hash k)) Q E s:=by
 obtain⟨o,es,ep,t,ho,hex,hd,hp,nd,hb,hf,g⟩:=id hS;have hel:=LW hp;have lk:es.size=ks.length:=by rw[<- zAC]; exact Paired.length hp
 unfold setAddHashed setAddHashedIn;refine wpAny_holding (zCy (wpAny_setState_of ho hd hf ?_))
 dsimp only
 rw[byScan_of hsc hb hel];simp only [↓reduceIte];unfold setAddByScan;refine zCy (zCy (wpAny_rule (zCy (wpAny_setScan_of hkey ho hd hf hel ?_))));cases hr:List.findIdx? (fun e=>knd.is k e.2) es.toList with
 | some j=>
  have hk:k∈ks:=Classical.byContradiction fun z=>by rw[(C8 hp).mpr z] at hr; cases hr
  dsimp only
  refine zCz (zCz ?_);have e:s={ s with heap:=s.heap }:=by cases s; rfl
  rw[e];exact h false s.heap ks (zAQ.refl a s.heap) hS (by rw[if_pos hk])
 | none=>
  have hk:k∉ks:=(C8 hp).mp hr
  dsimp only
  have p1:=layNew_perm t es (knd.hash k) x;have f1:=layNew_fits t es (knd.hash k) x;have g1:=(Zq g es (knd.hash k) x).1;generalize layNew t es (knd.hash k) x=Y at p1 f1 g1 ⊢;obtain⟨es1,t1,wd,gv⟩:=Y
  dsimp only at p1 f1 g1 ⊢
  rw[Array.toList_push] at p1;obtain⟨ks1,q1,hp1⟩:=Pd p1 (Pg (show JA knd (knd.hash k,x) k from ⟨hkey,rfl,hsc⟩) hp);have nd1:ks1.Nodup:=q1.nodup_iff.mpr (zCr.mpr ⟨nd,by simp,fun a ha b hb'=>by rw[zAk] at hb'; subst hb'; rintro rfl; exact hk ha⟩);have b1:es1.size<scanBound:=by rw[<- zAC,p1.length_eq,zAm,zAC,lk]; exact hroom
  have fin:∀ h' ks',zAQ a s.heap h'->GSet knd h' a ks'->ks'.Perm ks1->Q true { s with heap:=h' }:=fun h' ks' sb G p=>h true h' ks' sb G (by rw[if_neg hk]; exact p.trans q1);have gw:∀ (b:Bool) (s₁ : Shared) (Q':Unit->Shared->Prop),Q' () s₁ -> wpAny (model prog w) A (match b with | true=>rule "set.scan.the-table-gave-way" | false=>pure ()) Q' E s₁ :=
   fun b s₁ Q' hq=>by cases b <;> first | exact zCz hq | exact wpAny_rule hq
  refine zCy (gw _ _ _ ?_)
  split
  ·refine zCy ?_
   rw[hashByValue_scannable 8 hsc];refine zCz ?_;refine E5 (ks1:=ks1) (knd:=knd) ho hex hd hp1 nd1 b1 ?_ ?_ gw fun h' ks' sb G p=>?_
   ·split
    ·exact f1
    ·exact SetTable.fits_plain_off f1
   ·split
    ·exact g1
    ·exact N4 g1 _
   ·exact zCz (fin h' ks' sb G p)
  ·refine zCy (zCz ?_)
   simp only [↓reduceIte];exact E5 (ks1:=ks1) (knd:=knd) ho hex hd hp1 nd1 b1 f1 g1 gw fun h' ks' sb G p=>zCz (fin h' ks' sb G p)
end
theorem slot_sin:Slot "set_iterator" "__next__" "set_iterator.__next__" :=
 .of (owner := "set_iterator") (n := "__next__") (by rw[typeLookup_type,builtinLookup_eq_fast]; kernel_rfl) (by ac_nf) (by ac_nf) (by ac_nf) (by first | exact .inl (by ac_nf) | exact .inr (by ac_nf)) (by rw[isSubtype_type]; kernel_rfl)
theorem Ki:entryFor table "set_iterator.__next__" = some Builtin.«set_iterator.__next__» := entryFor_of_fast (by kernel_rfl)
theorem Mm (a:Value):argsOk "set_iterator.__next__" ⟨[a],[]⟩:=by unfold argsOk; kernel_rfl
theorem Zh:Slot "set_iterator" "__iter__" "set_iterator.__iter__" :=
 .of (owner := "set_iterator") (n := "__iter__") (by rw[typeLookup_type,builtinLookup_eq_fast]; kernel_rfl) (by ac_nf) (by ac_nf) (by ac_nf) (by first | exact .inl (by ac_nf) | exact .inr (by ac_nf)) (by rw[isSubtype_type]; kernel_rfl)
theorem BE (a:Value):argsOk "set_iterator.__iter__" ⟨[a],[]⟩:=by unfold argsOk; kernel_rfl
theorem AD:entryFor table "set_iterator.__iter__" = some Builtin.«dict_keyiterator.__iter__» :=
 entryFor_alias (id' := "dict_keyiterator.__iter__") (by kernel_rfl) rfl (by ac_nf) (by kernel_rfl)
theorem BX:entryFor table "set.__iter__" = some Builtin.«frozenset.__iter__» :=
 entryFor_alias (id' := "frozenset.__iter__") (by kernel_rfl) rfl (by ac_nf) (by kernel_rfl)
def G5 (h:Heap) (I:Addr) (first:Value) (i:Nat) (a:Addr) (n ep:Nat):Prop:=h.get? I=some { cls:=.type "set_iterator",dict:=none,data:=.fields #[first,rawInt i,.ref a,rawInt n,rawInt ep],slots := #[] }
section
variable {prog:Program} {w:World} {A:Around} {E:Value->Shared->Prop} {s:Shared} {I a:Addr} {i n ep slot nx:Nat} {x:Value} {o:Obj} {es:Array (Int×Value)} {t:SetTable} {Q:Option Value->Shared->Prop}
theorem Zn (hit:G5 s.heap I (rawInt slot) i a n ep) (ho:s.heap.get? a=some o) (hd:o.data = .set es ep t) (hf:t.fits es.size=true) (hn:es.size=n)
  (hx:∀ (A':Around) (Q':Option (Value×Nat)->Shared->Prop) (E':Value->Shared->Prop),Q' (some (x,nx)) s->wpAny (model prog w) A' (setNext a slot i ep) Q' E' s)
  (h:∀ h',G5 h' I (rawInt nx) (i+1) a n ep->zAQ I s.heap h'->Q (some x) { s with heap:=h' }):wpAny (model prog w) A (pyNext (.ref I)) Q E s:=by
 have ty:s.TypeIs (.ref I) "set_iterator" := ⟨_,hit,rfl⟩;unfold pyNext;refine zCy (wpAny_attempt (wpAny_callSpecial?_slot (name:=Str.ofString "__next__") ty slot_sin (wpAny_call_entry slot_sin ty Ki ?_ (Mm _))));unfold Builtin.«set_iterator.__next__»;refine zCy (m:=slotArgs "__next__" 0 _) (zCz (zCy (wpAny_fieldsOf hit rfl ?_)))
 dsimp only [rawInt]
 refine zCy (wpAny_setEntries_of ho hd hf ?_);rw[hn];rw[if_neg (by simp)];refine zCy (hx _ _ _ ?_)
 dsimp only
 refine zCy (wpAny_setField_rec hit (by simp) fun h1 e1 sb1=>?_);refine zCy (wpAny_setField_rec e1 (by simp) fun h2 e2 sb2=>?_);refine zCz ⟨_,rfl,zCz (h h2 ?_ (sb1.trans sb2))⟩;unfold G5;rw[e2];simp [rawInt]
end
theorem Lg {α:Type}:∀ {l:List α} {i:Nat} (h:i<l.length),(l[i]::l.eraseIdx i).Perm l
 | [],_,h=>absurd h (zBm _)
 | x::l,0,_=>List.Perm.refl _
 | x::l,i+1,h=>(List.Perm.swap x _ _).trans ((Lg (l:=l) (i:=i) (by simpa using h)).cons x)
theorem Q5 {α:Type} (f:Nat->Nat):∀ (m k:Nat) (l:List α) (out:Array α),l.length=m->(pickOrder.go f m k l out).toList.Perm (out.toList++l)
 | 0,k,l,out,h=>by
  have e:l=[]:=List.length_eq_zero_iff.mp h;subst e;unfold pickOrder.go;rw[zAY]
 | m+1,k,l,out,h=>by
  have hl:f k%l.length<l.length:=Nat.mod_lt _ (by lia);unfold pickOrder.go;rw[zAd hl]
  dsimp only
  refine (Q5 f m (k+1) _ _ (by rw[List.length_eraseIdx,if_pos hl]; lia)).trans ?_;rw[Array.toList_push,zBA];exact (Lg hl).append_left _
theorem Nt {α:Type} (f:Nat->Nat) (xs:Array α):(pickOrder f xs).toList.Perm xs.toList:=by
 unfold pickOrder;exact (Q5 f xs.size 0 xs.toList #[] zAC).trans (by simp)
def Jc (p:Array Nat) (i:Nat):Nat:=if i=0 then 0 else p.getD (i-1) 0+1
theorem Tj {p:Array Nat} (r:Rs p) {i:Nat} (hi:i<=p.size):SetTable.below p (Jc p i)=i:=by
 have b:=Sg (j:=Jc p i) r;unfold Jc at b ⊢;by_cases c:i=0
 ·rw[if_pos c] at b ⊢
  rw[c];rcases Nat.eq_zero_or_pos (SetTable.below p 0) with z | z
  ·exact z
  ·have h0:0<p.size:=zAH z b.le
   exact absurd (b.lo 0 h0 z) (zBm _)
 ·rw[if_neg c] at b ⊢
  have hp:i-1<p.size:=by lia
  have e:p.getD (i-1) 0=p[i-1]:=by simp [zCa,hp]
  rw[e] at b ⊢;rcases zBH (SetTable.below p (p[i-1]+1)) i with z | z | z
  ·have:=b.hi (i-1) hp (by lia)
   lia
  ·exact z
  ·have hs:i<p.size:=zAH z b.le
   have h1:=b.lo i hs z;have h2:=Q3 r (i:=i-1) (k:=i) (by lia) hs
   lia
section
variable {prog:Program} {w:World} {A:Around} {E:Value->Shared->Prop} {s:Shared} {a:Addr} {o:Obj} {es:Array (Int×Value)} {ep:Nat} {t:SetTable}
theorem Ql {Q:Bool->Shared->Prop} (h:Q (w.params.followText "set-order") s):wpAny (model prog w) A setsByText Q E s:=by
 unfold setsByText;exact zCy (wpAny_askSetting (zCz h))
theorem Wb {slot i:Nat} {Q:Option (Value×Nat)->Shared->Prop} (bt:w.params.followText "set-order" = true) (ho:s.heap.get? a=some o) (hd:o.data = .set es ep t) (hf:t.fits es.size=true)
  (h:Q (((pickOrder (w.params.setOrder a ep) es)[i]?).map fun e=>(e.2,slot)) s):wpAny (model prog w) A (setNext a slot i ep) Q E s:=by
 unfold setNext;refine zCy (wpAny_setState_of ho hd hf ?_)
 dsimp only
 refine zCy (Ql ?_);rw[bt,if_pos rfl,if_neg (by simp)];refine zCy ?_;unfold setWalk;refine zCy (wpAny_setState_of ho hd hf ?_)
 dsimp only
 refine zCy (Ql ?_);rw[bt,if_pos rfl];exact zCy (wpAny_askSetting (zCz (zCz h)))
theorem Qv {slot i:Nat} {Q:Option (Value×Nat)->Shared->Prop} (bt:w.params.followText "set-order" = false) (ho:s.heap.get? a=some o) (hd:o.data = .set es ep t) (hf:t.fits es.size=true) (hl:t.led=true) (hp:(!t.plain&&decide (es.size>1))=false)
  (h:Q (match es[SetTable.below t.place slot]?,t.place[SetTable.below t.place slot]? with
   | some (_,x),some j=>some (x,j+1)
   | _,_=>none) s):wpAny (model prog w) A (setNext a slot i ep) Q E s:=by
 unfold setNext;refine zCy (wpAny_setState_of ho hd hf ?_)
 dsimp only
 refine zCy (Ql ?_);rw[bt,if_neg zAl];show wpAny _ _ (if (!t.plain&&decide (es.size>1))=true then _ else _) _ _ _;rw[hp,if_neg zAl];refine zCy ?_;show wpAny _ _ (if (!t.led && !es.isEmpty)=true then unsupported "set:maker-not-led" else pure ()) _ _ _;rw[hl,if_neg (by simp)];exact zCz (zCz h)
theorem P2 {place:Nat} {k:Int} {x:Value} {Q:Value->Shared->Prop} (ho:s.heap.get? a=some o) (hd:o.data = .set es ep t) (hf:t.fits es.size=true) (hx:es[place]?=some (k,x)) (h:Q x s):wpAny (model prog w) A (setNextDrawn a place ep) Q E s:=by
 unfold setNextDrawn;refine zCy (wpAny_setState_of ho hd hf ?_)
 dsimp only
 rw[if_neg (by simp),hx];exact zCz h
theorem N2 {src:Source} {n:Nat} {Q:Nat->Shared->Prop} (hn:n≠0) (h:∀ i,i<n->Q i { s with drawn:=s.drawn.bump src }):wpAny (model prog w) A (choose src n) Q E s:=fun _ _ _=>by
 unfold choose;rw[Sem.wp_choose];exact⟨hn,h _ (Nat.mod_lt _ (by lia))⟩
theorem Rf {α:Type}:∀ (n:Nat) (xs:List α) (s:Shared) (Q:List α->Shared->Prop),xs.length=n->(∀ ys d,ys.Perm xs->Q ys { s with drawn:=d })->wpAny (model prog w) A (drawOrder n xs) Q E s
 | 0,xs,s,Q,hl,h=>by
  have e:xs=[]:=List.length_eq_zero_iff.mp hl;subst e;unfold drawOrder;exact zCz (h [] s.drawn (List.Perm.refl _))
 | n+1,xs,s,Q,hl,h=>by
  cases xs with
  | nil=>simp at hl
  | cons x xs=>
   unfold drawOrder;refine zCy (N2 (by simp) fun i hi=>?_);rw[zAd hi]
   dsimp only
   refine zCy (Rf n _ _ _ (by rw[List.length_eraseIdx,if_pos hi]; lia) fun ys d p=>zCz ?_);exact h _ d ((p.cons _).trans (Lg hi))
end
section
variable {prog:Program} {w:World} {A:Around} {E:Value->Shared->Prop} {s:Shared} {I a T:Addr} {i n ep slot:Nat} {o:Obj} {es:Array (Int×Value)} {t:SetTable} {Q:Option Value->Shared->Prop}
theorem AZ {places:Array Value} {cn:Nat} {pl:Nat} {tk:Tok} {k:Int} {x:Value} (hit:G5 s.heap I (.ref T) i a n ep) (hT:s.heap.get? T=some { cls:=.type "tuple",dict:=none,data:=.seq places cn,slots := #[] }) (ho:s.heap.get? a=some o) (hd:o.data = .set es ep t) (hf:t.fits es.size=true) (hn:es.size=n)
  (hp:places[i]?=some (.int (pl:Int) tk)) (hx:es[pl]?=some (k,x))
  (h:∀ h',G5 h' I (.ref T) (i+1) a n ep->zAQ I s.heap h'->Q (some x) { s with heap:=h' }):wpAny (model prog w) A (pyNext (.ref I)) Q E s:=by
 have ty:s.TypeIs (.ref I) "set_iterator" := ⟨_,hit,rfl⟩;unfold pyNext;refine zCy (wpAny_attempt (wpAny_callSpecial?_slot (name:=Str.ofString "__next__") ty slot_sin (wpAny_call_entry slot_sin ty Ki ?_ (Mm _))));unfold Builtin.«set_iterator.__next__»;refine zCy (m:=slotArgs "__next__" 0 _) (zCz (zCy (wpAny_fieldsOf hit rfl ?_)))
 dsimp only [rawInt]
 refine zCy (wpAny_setEntries_of ho hd hf ?_);rw[hn,if_neg (by simp)];refine zCy (wpAny_seqItems hT rfl ?_)
 dsimp only
 rw[show ((i:Int)).toNat=i from rfl,hp]
 dsimp only
 refine zCy (P2 ho hd hf (place:=pl) hx ?_);refine zCy (wpAny_setField_rec hit (by simp) fun h1 e1 sb1=>?_);refine zCz ⟨_,rfl,zCz (h h1 ?_ sb1)⟩;unfold G5;rw[e1];simp [rawInt]
theorem Ta {α:Type} {Q:α->Shared->Prop} (hh:A.handled=none) (h:∀ h' e,(∀ b o,s.heap.get? b=some o->h'.get? b=some o)->Shared.TypeIs { s with heap:=h' } e "StopIteration" -> E e { s with heap:=h' }):wpAny (model prog w) A (newExc (.type "StopIteration") [] >>= raiseNew) Q E s:=by
 refine zCy ?_;simp only [newExc,newTuple];refine zCy (wpAny_newObj_type ?_ (by size_fits));refine zCy (m:=firstArgMember _ _) (wpAny_of_eq (a:=Value.none) (by first | rfl | (simp only [firstArgMember]; rfl)) ?_);refine wpAny_newObj_type ?_ (by size_fits);refine wpAny_raiseNew_none hh (h _ _ (fun b ob e=>zAe _ (zAe _ e)) ⟨_,zAt _ rfl,rfl⟩)
theorem W8 (hh:A.handled=none) (hit:G5 s.heap I (rawInt slot) i a n ep) (ho:s.heap.get? a=some o) (hd:o.data = .set es ep t) (hf:t.fits es.size=true) (hn:es.size=n)
  (hx:∀ (A':Around) (Q':Option (Value×Nat)->Shared->Prop) (E':Value->Shared->Prop),Q' none s->wpAny (model prog w) A' (setNext a slot i ep) Q' E' s)
  (h:∀ h',Heap.ExtBut I s.heap h'->Q none { s with heap:=h' }):wpAny (model prog w) A (pyNext (.ref I)) Q E s:=by
 have ty:s.TypeIs (.ref I) "set_iterator" := ⟨_,hit,rfl⟩;unfold pyNext;refine zCy (wpAny_attempt (wpAny_callSpecial?_slot (name:=Str.ofString "__next__") ty slot_sin (wpAny_call_entry slot_sin ty Ki ?_ (Mm _))));unfold Builtin.«set_iterator.__next__»;refine zCy (m:=slotArgs "__next__" 0 _) (zCz (zCy (wpAny_fieldsOf hit rfl ?_)))
 dsimp only [rawInt]
 refine zCy (wpAny_setEntries_of ho hd hf ?_);rw[hn,if_neg (by simp)];refine zCy (hx _ _ _ ?_)
 dsimp only
 refine zCy (wpAny_setField_rec hit (by simp) fun h1 e1 sb1=>?_);refine Ta (s:={ s with heap:=h1 }) (by exact hh) fun h2 e k2 te=>?_
 dsimp only
 refine zCy (wpAny_isInstance (T := "StopIteration") (b:=true) te isSubtype_stop ?_);exact zCz (h h2 (fun b ob nb e'=>k2 b ob ((sb1.2 b nb).trans e')))
theorem GH {places:Array Value} {cn:Nat} (hh:A.handled=none) (hit:G5 s.heap I (.ref T) i a n ep) (hT:s.heap.get? T=some { cls:=.type "tuple",dict:=none,data:=.seq places cn,slots := #[] }) (ho:s.heap.get? a=some o) (hd:o.data = .set es ep t) (hf:t.fits es.size=true) (hn:es.size=n) (hp:places[i]?=none)
  (h:∀ h',Heap.ExtBut I s.heap h'->Q none { s with heap:=h' }):wpAny (model prog w) A (pyNext (.ref I)) Q E s:=by
 have ty:s.TypeIs (.ref I) "set_iterator" := ⟨_,hit,rfl⟩;unfold pyNext;refine zCy (wpAny_attempt (wpAny_callSpecial?_slot (name:=Str.ofString "__next__") ty slot_sin (wpAny_call_entry slot_sin ty Ki ?_ (Mm _))));unfold Builtin.«set_iterator.__next__»;refine zCy (m:=slotArgs "__next__" 0 _) (zCz (zCy (wpAny_fieldsOf hit rfl ?_)))
 dsimp only [rawInt]
 refine zCy (wpAny_setEntries_of ho hd hf ?_);rw[hn,if_neg (by simp)];refine zCy (wpAny_seqItems hT rfl ?_)
 dsimp only
 rw[show ((i:Int)).toNat=i from rfl,hp]
 dsimp only
 refine zCy (wpAny_setField_rec hit (by simp) fun h1 e1 sb1=>?_);refine zCy (wpAny_setField_rec e1 (by simp) fun h2 e2 sb2=>?_);refine Ta (s:={ s with heap:=h2 }) (by exact hh) fun h3 e k3 te=>?_
 dsimp only
 refine zCy (wpAny_isInstance (T := "StopIteration") (b:=true) te isSubtype_stop ?_);exact zCz (h h3 (fun b ob nb e'=>k3 b ob ((sb2.2 b nb).trans ((sb1.2 b nb).trans e'))))
theorem Xf {first:Value} {Q:Value->Shared->Prop} (hit:G5 s.heap I first i a n ep) (h:Q (.ref I) s):wpAny (model prog w) A (pyIter (.ref I)) Q E s:=by
 have ty:s.TypeIs (.ref I) "set_iterator" := ⟨_,hit,rfl⟩;refine wpAny_pyIter_slot ty Zh (wpAny_call_entry Zh ty AD ?_ (BE _));unfold Builtin.«dict_keyiterator.__iter__»;exact zCy (m:=slotArgs "__iter__" 0 _) (zCz (zCz ⟨_,rfl, "set_iterator",_,ty,slot_sin.lookup,h⟩))
theorem D4:Slot "set" "__iter__" "set.__iter__" :=
 .of (owner := "set") (n := "__iter__") (by rw[typeLookup_type,builtinLookup_eq_fast]; kernel_rfl) (by ac_nf) (by ac_nf) (by ac_nf) (by first | exact .inl (by ac_nf) | exact .inr (by ac_nf)) (by rw[isSubtype_type]; kernel_rfl)
theorem BN (a:Value):argsOk "set.__iter__" ⟨[a],[]⟩:=by unfold argsOk; kernel_rfl
def OW (w:World) (h0 h:Heap) (I a:Addr) (es:Array (Int×Value)) (ep:Nat) (t:SetTable):Prop:=
 (G5 h I (rawInt 0) 0 a es.size ep/\(w.params.followText "set-order" = true\/(w.params.followText "set-order" = false/\(!t.plain&&decide (es.size>1))=false))) \/
 ∃ T ps,G5 h I (.ref T) 0 a es.size ep/\h.get? T=some { cls:=.type "tuple",dict:=none,data:=.seq ((ps:List Nat).map fun i:Nat=>rawInt i).toArray 0,slots := #[] }/\ps.Perm (zAI es.size)/\T≠I/\h0.get? T=none
theorem FK {Q:Value->Shared->Prop} (hc:o.cls = .type "set") (ho:s.heap.get? a=some o) (hd:o.data = .set es ep t) (hf:t.fits es.size=true) (hz:es.size<=sizeLine)
  (h:∀ h' d I,OW w s.heap h' I a es ep t->(∀ b ob,s.heap.get? b=some ob->h'.get? b=some ob)->s.heap.get? I=none->Q (.ref I) { s with heap:=h',drawn:=d }):wpAny (model prog w) A (pyIter (.ref a)) Q E s:=by
 have ty:s.TypeIs (.ref a) "set" := ⟨_,ho,hc⟩;refine wpAny_pyIter_slot ty D4 (wpAny_call_entry D4 ty BX ?_ (BN _));unfold Builtin.«frozenset.__iter__»;refine zCy (m:=Builtin.Frozenset.slot0 "__iter__" _) (zCz ?_);refine zCy (zCy (wpAny_setEntries_of ho hd hf (zCz ?_)));refine zCy ?_;unfold setDrawn;refine zCy (wpAny_setState_of ho hd hf ?_)
 dsimp only
 refine zCy (Ql (zCz ?_));show wpAny _ _ (if (!(w.params.followText "set-order")&&(!t.plain&&decide (es.size>1)))=true then _ else _) _ _ _;have last:∀ (first:Value) (h1:Heap) (d1:Drawn),(∀ b ob,s.heap.get? b=some ob->h1.get? b=some ob)->s.heap.objs.size<=h1.objs.size->(∀ h2,(∀ b ob,h1.get? b=some ob->h2.get? b=some ob)->G5 h2 h1.objs.size first 0 a es.size ep->OW w s.heap h2 h1.objs.size a es ep t) ->
   wpAny (model prog w) A.in1 (do
    let x <- setEpoch a
    let y <- newFields "set_iterator" [first,rawInt 0,Value.ref a,rawInt ↑es.size,rawInt ↑x]
    ret y) (fun fin s'=>∃ v,fin = .done (.ret v)/\∃ T' r,s'.TypeIs v T'/\typeLookup (Value.type T') (Str.ofString "__next__")=pure (some r)/\Q v s') E { s with heap:=h1,drawn:=d1 }:=fun first h1 d1 k1 le bg=>by
  refine zCy ?_;unfold setEpoch;refine zCy (wpAny_setState_of (s:={ s with heap:=h1,drawn:=d1 }) (k1 _ _ ho) hd hf (zCz ?_));refine zCy (wpAny_newObj_type (zCz ⟨_,rfl, "set_iterator",_,⟨_,zAt _ rfl,rfl⟩,slot_sin.lookup,?_⟩));refine h _ d1 h1.objs.size (bg _ (fun b ob e=>zAe _ e) (zAt _ rfl)) (fun b ob e=>zAe _ (k1 b ob e)) ?_;cases z:s.heap.get? h1.objs.size with
  | none=>rfl
  | some ob=>
   have:=zAq z;exact absurd le (Nat.not_le.mpr this)
 by_cases c:(!(w.params.followText "set-order")&&(!t.plain&&decide (es.size>1)))=true
 ·rw[if_pos c]
  refine zCy (Rf _ _ _ _ zAL fun ps d p=>?_);refine zCy (wpAny_newTuple ?_ (by rw[zAb,p.length_eq,zAL]; exact hz));refine last _ _ d (fun b ob e=>zAe _ e) (by rw[zBp]; exact zBl _) fun h2 k2 it=>.inr ⟨s.heap.objs.size,ps,it,k2 _ _ (zAt _ rfl),p,?_,?_⟩
  ·show s.heap.objs.size≠(s.heap.push _).objs.size
   rw[zBp];exact zAu (zBB _)
  ·cases z:s.heap.get? s.heap.objs.size with
   | none=>rfl
   | some ob=>exact absurd (zAq z) (zBo _)
 ·rw[if_neg c]
  refine zCy (zCz ?_);have e:s={ s with heap:=s.heap,drawn:=s.drawn }:=by cases s; rfl
  rw[e];refine last _ s.heap s.drawn (fun _ _ z=>z) (zAn _) fun h2 k2 it=>.inl ⟨it,?_⟩;cases b:w.params.followText "set-order" with
  | true=>exact .inl rfl
  | false=>
   rw[b] at c;exact .inr ⟨rfl,by simpa using c⟩
end
section
variable {prog:Program} {w:World} {A:Around} {E:Value->Shared->Prop} {I a:Addr} {es:Array (Int×Value)} {ep:Nat} {t:SetTable}
def V6 (h:Heap) (a:Addr) (es:Array (Int×Value)) (ep:Nat) (t:SetTable):Prop:=∃ o,h.get? a=some o/\o.data = .set es ep t
theorem Sv (hf:t.fits es.size=true):t.place.size=es.size:=by
 unfold SetTable.fits at hf;simp at hf;exact hf.1
theorem G9 (es:Array (Int×Value)):(zAI es.size).map (fun p=>(es.getD p (0,.none)).2)=es.toList.map (·.2):=by
 refine List.ext_getElem? fun i=>?_;rw[zAw,zAw];by_cases h:i<es.size
 ·rw[List.getElem?_range h,zBf,zAV h]
  simp [zCa,h]
 ·rw[zBU (by simpa using h),zBf,zBE (by lia)]
  rfl
theorem Li {s:Shared} {h':Heap} (sb:zAQ I s.heap h'):Moved [I] (fun x y:Array GenState=>y=x) s { s with heap:=h' }:=⟨fun b o nb e=>(sb.2 b (fun z=>nb (by rw[z]; exact zAk.mpr rfl))).trans e,rfl,rfl,rfl,zAn _⟩
theorem Os {s:Shared} {h':Heap} (sb:Heap.ExtBut I s.heap h'):Moved [I] (fun x y:Array GenState=>y=x) s { s with heap:=h' }:=⟨fun b o nb e=>sb b o (fun z=>nb (by rw[z]; exact zAk.mpr rfl)) e,rfl,rfl,rfl,zAn _⟩
theorem F7 (hh:A.handled=none) (bt:w.params.followText "set-order" = true) (hf:t.fits es.size=true) (na:a≠I) :
  WalksS prog w A I [I,a] [I] (fun x y=>y=x) es.size (fun i v=>(((pickOrder (w.params.setOrder a ep) es).toList.map (·.2))[i]?)=some v) (fun i s=>G5 s.heap I (rawInt 0) i a es.size ep/\V6 s.heap a es ep t) where
 sub:=fun b hb=>by rw[zAk.mp hb]; exact zAj
 grefl:=fun _=>rfl
 gtrans:=fun _ _ _ h1 h2=>h2.trans h1
 frame:=fun i s h' tk ⟨it,o,ho,hd⟩ _ k=>⟨k I zAj _ it,o,k a (by simp) _ ho,hd⟩
 item:=fun i s Q E hi ⟨it,o,ho,hd⟩ h=>by
  have sz:(pickOrder (w.params.setOrder a ep) es).size=es.size:=by rw[<- zAC,(Nt _ es).length_eq,zAC]
  have ei:(pickOrder (w.params.setOrder a ep) es)[i]?=some ((pickOrder (w.params.setOrder a ep) es)[i]'(by lia)):=zAV (by lia);refine Zn (slot:=0) (nx:=0) it ho hd hf rfl (fun A' Q' E' q=>Wb bt ho hd hf (by rw[ei]; exact q)) fun h' it' sb=>?_;refine h _ _ ?_ ⟨it',o,(sb.2 a na).trans ho,hd⟩ (Li sb);rw[zAw,zBf,ei];rfl
 done:=fun s Q E ⟨it,o,ho,hd⟩ h=>by
  have sz:(pickOrder (w.params.setOrder a ep) es).size=es.size:=by rw[<- zAC,(Nt _ es).length_eq,zAC]
  refine W8 (slot:=0) hh it ho hd hf rfl (fun A' Q' E' q=>Wb bt ho hd hf (by rw[zBE (by lia)]; exact q)) fun h' sb=>h _ (Os sb)
 self:=fun i s Q E ⟨it,_⟩ h=>Xf it h
theorem B0 (hh:A.handled=none) (bt:w.params.followText "set-order" = false) (hf:t.fits es.size=true) (hl:t.led=true) (rs:Rs t.place) (hp:(!t.plain&&decide (es.size>1))=false) (na:a≠I) :
  WalksS prog w A I [I,a] [I] (fun x y=>y=x) es.size (fun i v=>((es.toList.map (·.2))[i]?)=some v) (fun i s=>G5 s.heap I (rawInt (Jc t.place i)) i a es.size ep/\V6 s.heap a es ep t) where
 sub:=fun b hb=>by rw[zAk.mp hb]; exact zAj
 grefl:=fun _=>rfl
 gtrans:=fun _ _ _ h1 h2=>h2.trans h1
 frame:=fun i s h' tk ⟨it,o,ho,hd⟩ _ k=>⟨k I zAj _ it,o,k a (by simp) _ ho,hd⟩
 item:=fun i s Q E hi ⟨it,o,ho,hd⟩ h=>by
  have sz:=Sv hf;have bl:=Tj rs (i:=i) (by lia);have ei:es[i]?=some (es[i]'hi):=zAV hi;have pi:t.place[i]?=some (t.place[i]'(by lia)):=zAV (by lia);have en:Jc t.place (i+1)=t.place[i]'(by lia)+1:=by
   unfold Jc;rw[if_neg (by lia),Nat.add_sub_cancel];simp [zCa,show i<t.place.size by lia]
  refine Zn (slot:=Jc t.place i) (nx:=Jc t.place (i+1)) it ho hd hf rfl (fun A' Q' E' q=>Qv bt ho hd hf hl hp (by rw[bl,ei,pi]; dsimp only; rw[<- en]; exact q)) fun h' it' sb=>?_;refine h _ _ ?_ ⟨it',o,(sb.2 a na).trans ho,hd⟩ (Li sb);rw[zAw,zBf,ei];rfl
 done:=fun s Q E ⟨it,o,ho,hd⟩ h=>by
  have sz:=Sv hf;have bl:=Tj rs (i:=es.size) (by lia);refine W8 (slot:=Jc t.place es.size) hh it ho hd hf rfl (fun A' Q' E' q=>Qv bt ho hd hf hl hp (by rw[bl,zBE (zAn _)]; exact q)) fun h' sb=>h _ (Os sb)
 self:=fun i s Q E ⟨it,_⟩ h=>Xf it h
theorem B5 {T:Addr} {ps:List Nat} (hh:A.handled=none) (hf:t.fits es.size=true) (pm:ps.Perm (zAI es.size)) (na:a≠I) (nT:T≠I) :
  WalksS prog w A I [I,a,T] [I] (fun x y=>y=x) es.size (fun i v=>((ps.map fun p=>(es.getD p (0,.none)).2)[i]?)=some v)
   (fun i s=>G5 s.heap I (.ref T) i a es.size ep/\V6 s.heap a es ep t/\s.heap.get? T=some { cls:=.type "tuple",dict:=none,data:=.seq (ps.map fun i:Nat=>rawInt i).toArray 0,slots := #[] }) where
 sub:=fun b hb=>by rw[zAk.mp hb]; exact zAj
 grefl:=fun _=>rfl
 gtrans:=fun _ _ _ h1 h2=>h2.trans h1
 frame:=fun i s h' tk ⟨it,⟨o,ho,hd⟩,hT⟩ _ k=>⟨k I zAj _ it,⟨o,k a (by simp) _ ho,hd⟩,k T (by simp) _ hT⟩
 item:=fun i s Q E hi ⟨it,⟨o,ho,hd⟩,hT⟩ h=>by
  have ln:ps.length=es.size:=by rw[pm.length_eq,zAL]
  have ei:ps[i]?=some (ps[i]'(by lia)):=zAd (by lia);have pl:ps[i]'(by lia)<es.size:=zBu.mp (pm.mem_iff.mp (zAZ _));have ex:es[ps[i]'(by lia)]?=some (es[ps[i]'(by lia)]'pl):=zAV pl;refine AZ (pl:=ps[i]'(by lia)) (k:=(es[ps[i]'(by lia)]'pl).1) (x:=(es[ps[i]'(by lia)]'pl).2) it hT ho hd hf rfl (tk:=0) ?_ ex fun h' it' sb=>?_
  ·rw[zBV,zAw,ei]
   rfl
  ·refine h _ _ ?_ ⟨it',⟨o,(sb.2 a na).trans ho,hd⟩,(sb.2 T nT).trans hT⟩ (Li sb)
   rw[zAw,ei];simp [zCa,pl]
 done:=fun s Q E ⟨it,⟨o,ho,hd⟩,hT⟩ h=>by
  have ln:ps.length=es.size:=by rw[pm.length_eq,zAL]
  refine GH hh it hT ho hd hf rfl ?_ fun h' sb=>h _ (Os sb);rw[zBV,zAw,zBU (by lia)];rfl
 self:=fun i s Q E ⟨it,_⟩ h=>Xf it h
theorem Z2 (hh:A.handled=none) {h0 h:Heap} (hs:V6 h a es ep t) (hf:t.fits es.size=true) (g:Kv (w.params.followText "set-order") t) (na:a≠I) (nI:h0.get? I=none) (b:OW w h0 h I a es ep t) :
  ∃ (os:List Value) (fp:List Addr) (St:Nat->Shared->Prop),os.Perm (es.toList.map (·.2))/\WalksS prog w A I fp [I] (fun x y=>y=x) es.size (fun i v=>os[i]?=some v) St/\(∀ s:Shared,s.heap=h->St 0 s)/\∀ x∈fp,x=a\/h0.get? x=none:=by
 rcases b with ⟨it,bt | ⟨bt,hp⟩⟩ | ⟨T,ps,it,hT,pm,nT,nT0⟩
 ·refine⟨_,_,_,(Nt (w.params.setOrder a ep) es).map _,F7 hh bt hf na,fun s e=>by rw[e]; exact⟨it,hs⟩,fun x hx=>?_⟩
  rcases zAo.mp hx with z | z
  ·rw[z]; exact .inr nI
  ·exact .inl (zAk.mp z)
 ·refine⟨_,_,_,List.Perm.refl _,B0 hh bt hf (g.ld bt) g.rs hp na,fun s e=>by rw[e]; exact⟨it,hs⟩,fun x hx=>?_⟩
  rcases zAo.mp hx with z | z
  ·rw[z]; exact .inr nI
  ·exact .inl (zAk.mp z)
 ·refine⟨_,_,_,(pm.map _).trans (List.Perm.of_eq (G9 es)),B5 hh hf pm na nT,fun s e=>by rw[e]; exact⟨it,hs,hT⟩,fun x hx=>?_⟩
  rcases zAo.mp hx with z | z
  ·rw[z]; exact .inr nI
  ·rcases zAo.mp z with z | z
   ·exact .inl z
   ·rw[zAk.mp z]; exact .inr nT0
end
section
variable {prog:Program} {w:World} {A:Around} {E:Value->Shared->Prop} {s:Shared} {a:Addr} {o:Obj} {es:Array (Int×Value)} {ep:Nat} {t:SetTable}
theorem HQ:typeLookup (.type "set") (Str.ofString "__len__")=pure (some (.builtin "set.__len__")):=F.slot_set_len.lookup
theorem JK:isSubtype (.type "set") (.type "set")=pure true:=by rw[isSubtype_type]; kernel_rfl
theorem BG {Q:Bool->Shared->Prop} (ty:s.TypeIs (.ref a) "set") (h:Q false s):wpAny (model prog w) A (Builtin.List.listLengthHint (.ref a)) Q E s:=by
 unfold Builtin.List.listLengthHint;refine zCy (wpAny_specialOf ty HQ ?_);generalize hid:("set.__len__" : String)=id0
 wp_delta
 rw[show splitId id0=some ("set", "__len__") from by subst hid; decide +kernel];subst hid;refine zCy (wpAny_isInstance ty JK ?_);show wpAny _ A (typeOf (Value.ref a) >>= _) _ _ _;refine zCy (wpAny_typeOf ty ?_);exact zCz h
theorem C5 {Q:List Value->Shared->Prop} (hh:A.handled=none) (hc:o.cls = .type "set") (ho:s.heap.get? a=some o) (hd:o.data = .set es ep t) (hf:t.fits es.size=true) (g:Kv (w.params.followText "set-order") t) (hz:es.size<=sizeLine)
  (h:∀ s' vs,vs.Perm (es.toList.map (·.2))->(∀ b ob,s.heap.get? b=some ob->s'.heap.get? b=some ob)->s'.gens=s.gens->s'.os=s.os->Q vs s'):wpAny (model prog w) A (collect (.ref a)) Q E s:=by
 unfold collect;refine zCy (wpAny_runValue (codeAny_builtin F.entry_proto_collect ?_));rw[Around.under_plainId F.plain_proto_collect _];show wpAny _ A.in1 (newList [] >>= fun l=>again (.builtin "list.__iadd__" ⟨[l,.ref a],[]⟩)) _ _ s;refine zCy (wpAny_newObj_type (zCz ⟨plainId_quiet F.plain_list_iadd _,codeAny_builtin F.entry_list_iadd ?_⟩));rw[Around.under_plainId F.plain_list_iadd _];have lt:a<s.heap.objs.size:=zAq ho;have old:∀ b ob,s.heap.get? b=some ob->(s.heap.push { cls:=.type "list",data:=.seq ([]:List Value).toArray }).get? b=some ob:=fun b ob e=>zAe _ e;have at0:(s.heap.push { cls:=.type "list",data:=.seq ([]:List Value).toArray }).get? s.heap.objs.size=some { cls:=.type "list",data:=.seq ([]:List Value).toArray }:=zAt _ rfl;generalize hL:s.heap.objs.size=L at at0;generalize s.heap.push { cls:=.type "list",data:=.seq ([]:List Value).toArray }=H at old at0;have nL:s.heap.get? L=none:=by
  cases z:s.heap.get? L with
  | none=>rfl
  | some ob=>exact absurd (zAq z) (by rw[hL]; exact zBo _)
 show wpAny _ A.in1 (Builtin.List.listExtendWith (.ref L) (.ref a) (.ref L)) _ _ { s with heap:=H };unfold Builtin.List.listExtendWith;have ty:Shared.TypeIs { s with heap:=H } (.ref a) "set" := ⟨_,old _ _ ho,hc⟩;refine zCy (wpAny_typeOf ty ?_);have c1:Builtin.List.listSameRef (.ref L) (.ref a)=false:=by
  have:L≠a:=by rw[<- hL]; exact zBk lt
  simp [Builtin.List.listSameRef,this]
 rw[if_neg (by rw[c1]; decide)];refine zCy (FK (s:={ s with heap:=H }) hc (old _ _ ho) hd hf hz fun h1 d I bg k1 nI=>?_);have ty1:Shared.TypeIs { s with heap:=h1,drawn:=d } (.ref a) "set" := ⟨_,k1 _ _ (old _ _ ho),hc⟩;refine zCy (wpAny_holding (BG ty1 ?_));show wpAny _ A.in1 (rule "list.extend.makes-room" >>= fun _=>Builtin.List.listTouch (.ref L) >>= fun _=>again (.builtin "list.extend.loop" ⟨[.ref L,.ref I,.ref L],[]⟩)) _ _ _;refine zCy (wpAny_rule (zCy ?_));show wpAny _ A.in1 (updateSeq L (·.push .none) >>= fun _=>updateSeq L (·.pop)) _ _ _;have at1:=k1 _ _ at0;refine zCy (wpAny_updateSeq (s:={ s with heap:=h1,drawn:=d }) at1 rfl ?_);have at2:=zBT (Obj.mapSeq (·.push Value.none)) at1 rfl;refine wpAny_updateSeq at2 rfl ?_;have at3:=zBT (Obj.mapSeq (·.pop)) at2 rfl;have oth:∀ b ob,b≠L->h1.get? b=some ob->((h1.update L (Obj.mapSeq (·.push Value.none))).update L (Obj.mapSeq (·.pop))).get? b=some ob:=fun b ob nb e=>
  (zBP _ _ (Ne.symm nb)).trans ((zBP _ _ (Ne.symm nb)).trans e)
 have naI:a≠I:=fun z=>by
  rw[<- z] at nI;have:=old _ _ ho;have nI':H.get? a=none:=nI;rw[this] at nI';cases nI'
 have nLI:L≠I:=fun z=>by
  rw[<- z] at nI;have nI':H.get? L=none:=nI;rw[at0] at nI';cases nI'
 obtain⟨vs,fp,St,pm,W,st0,inf⟩:=Z2 (prog:=prog) (A:=A.in1.in1) (by exact hh) (h:=h1) ⟨o,k1 _ _ (old _ _ ho),hd⟩ hf g naI nI bg;have nf:L∉fp:=fun z=>by
  rcases inf L z with e | e
  ·exact absurd e (by rw[<- hL]; exact zBk lt)
  ·have e':H.get? L=none:=e
   rw[at0] at e';cases e'
 have st1:=W.frame 0 { s with heap:=h1,drawn:=d } _ s.toks (st0 _ rfl) (zAn _) fun b hb ob e=>oth b ob (fun z=>nf (z▸hb)) e;refine zCz ⟨plainId_quiet F.plain_extend_loop _,codeAny_extend_loopS W.of_in1 hz L nf _ es.size 0 _ _ _ rfl (zAB _) st1 at3 (ItemsOf.nil _) fun s' acc c' hm hS' hacc=>?_⟩;show wpAny _ A (load L >>= _) _ _ s';refine zCy (wpAny_load hS' (zCz ?_));have ea:acc.toList=vs:=by
  obtain⟨z1,z2⟩:=hacc;have lv:vs.length=es.size:=by rw[pm.length_eq,zAb,zAC]
  refine List.ext_getElem? fun j=>?_;rw[zBf];by_cases hj:j<acc.size
  ·rw[zAV hj]
   exact (z2 j _ (zAV hj)).symm
  ·rw[zBE (by omega),zBU (by omega)]
 rw[ea];refine h s' vs pm (fun b ob e=>hm.heap b ob (fun z=>?_) (oth b ob (fun z=>?_) (k1 b ob (old b ob e)))) hm.gens hm.os
 ·rcases zAo.mp z with z | z
  ·rw[z,nL] at e
   cases e
  ·rw[zAk.mp z] at e
   have e':=old _ _ e;have nI':H.get? I=none:=nI;rw[e'] at nI';cases nI'
 ·rw[z,nL] at e
  cases e
end
section
variable {prog:Program} {w:World} {A:Around} {E:Value->Shared->Prop} {s:Shared}
theorem V4 {x:Value} {Q:Value->Shared->Prop} (h:Q (.ref s.heap.objs.size) { s with heap:=s.heap.push { cls:=.type "set",dict:=none,data:=.set #[] 0 (.fresh 0 0 (!w.params.followText "set-order")) } }) :
  codeAny (model prog w) A (.call (.builtin "set.__new__") ⟨[.type "set",x],[]⟩) (wants Q E) s:=by
 refine codeAny_of_tree ?_;show wpAny _ A.in1 (do checkBuiltinCall "set.__new__" ⟨[.type "set",x],[]⟩; again (.builtin "set.__new__" ⟨[.type "set",x],[]⟩)) _ _ s;refine zCy (wpAny_of_eq (F.newCall_set_1 x) (zCz ⟨plainId_quiet F.plain_set_new _,codeAny_builtin F.entry_set_new ?_⟩));rw[Around.under_plainId F.plain_set_new _];unfold Builtin.«set.__new__» Builtin.Frozenset.newClass;have hsub:=sub_set_self;obtain⟨hp,gn,d,tk,os⟩:=s
 dsimp only
 wp_walk
 refine wpAny_askSetting (zCz ?_)
 dsimp only
 simp only [newObj];exact zCy (wpAny_alloc (zCz (zCz h)))
variable {R:Result->Shared->Prop} {I:Addr} {fp wr:List Addr} {G:Array GenState->Array GenState->Prop} {n:Nat} {P:Nat->Value->Prop} {St:Nat->Shared->Prop}
theorem GSet.keep {h h':Heap} {a:Addr} {ks:List Int} (g:GSet (intKind prog w) h a ks) (k:∀ o,h.get? a=some o->h'.get? a=some o):GSet (intKind prog w) h' a ks:=by
 obtain⟨o,es,ep,t,ho,r⟩:=g;exact⟨o,es,ep,t,k o ho,r⟩
theorem Ze (W:WalksS prog w A.in1 I fp wr G n P St) (S:Addr) (nS:S∉fp) (val:Nat->Int) (hv:∀ i v,P i v->∃ t,v = .int (val i) t) (hb:n+1<scanBound) :
  ∀ (k i:Nat) (s:Shared) (ks:List Int),n-i=k->i<=n->St i s->GSet (intKind prog w) s.heap S ks->(∀ y,y∈ks↔∃ j,j<i/\val j=y)->ks.length<=i ->
   (∀ s' ks',Moved (S::wr) G s s'->GSet (intKind prog w) s'.heap S ks'->(∀ y,y∈ks'↔∃ j,j<n/\val j=y)->ks'.length<=n->R (.ok (.ret .none)) s') ->
   codeAny (model prog w) A (.builtin "set.update.loop" ⟨[.ref S,.ref I],[]⟩) R s:=by
 have nw:S∉wr:=fun z=>nS (W.sub _ z);have sub:∀ b∈wr,b∈S::wr:=fun b hb=>zAg _ hb;intro k
 induction k with
 | zero=>
  intro i s ks hk hi st g mem len fin;have e:i=n:=by lia
  subst e;refine codeAny_builtin PyProof.Rows.F.entry_set_update_loop ?_;rw[Around.under_plainId PyProof.Rows.F.plain_set_update_loop _];show wpAny _ A.in1 (pyNext (.ref I) >>= _) _ _ s;refine zCy (W.done s _ _ st fun s' hm=>?_);show wpAny _ A.in1 (ret Value.none) _ _ s';exact zCz (fin s' ks (hm.mono sub) (g.keep fun o e=>hm.heap S o nw e) mem len)
 | succ k ih=>
  intro i s ks hk hi st g mem len fin;refine codeAny_builtin PyProof.Rows.F.entry_set_update_loop ?_;rw[Around.under_plainId PyProof.Rows.F.plain_set_update_loop _];show wpAny _ A.in1 (pyNext (.ref I) >>= _) _ _ s;refine zCy (W.item i s _ _ (by lia) st fun v s' hP st' hm=>?_);obtain⟨tk,rfl⟩:=hv i v hP;have g':=g.keep fun o e=>hm.heap S o nw e;show wpAny _ A.in1 (holding [Value.int (val i) tk] (setAdd S (.int (val i) tk)) >>= _) _ _ s';refine zCy (wpAny_holding ?_);unfold setAdd;refine wpAny_holding (zCy ((intKind prog w).pyHash (k:=val i) (intKind_is _ _ _ _) ?_));refine II (knd:=intKind prog w) (s:={ s' with toks:=s'.toks+1 }) (intKind_is _ _ _ _) rfl g' (by lia) fun b h' ks' sb g2 pm=>?_;have len':ks'.length<=i+1:=by
   rw[pm.length_eq]
   split
   ·lia
   ·rw[zAm,zBv]; lia
  have mem':∀ y,y∈ks'↔∃ j,j<i+1/\val j=y:=fun y=>by
   rw[pm.mem_iff];constructor
   ·intro hy
    split at hy
    ·obtain⟨j,h1,h2⟩:=(mem y).mp hy
     exact⟨j,by lia,h2⟩
    ·rcases zAA.mp hy with z | z
     ·obtain⟨j,h1,h2⟩:=(mem y).mp z
      exact⟨j,by lia,h2⟩
     ·exact⟨i,by lia,(zAk.mp z).symm⟩
   ·rintro ⟨j,h1,h2⟩
    have old:∀ {z},z∈ks->z∈(if val i∈ks then ks else ks++[val i]):=fun {z} hz=>by
     split
     ·exact hz
     ·exact zBX _ hz
    by_cases c:j<i
    ·exact old ((mem y).mpr ⟨j,c,h2⟩)
    ·have e:j=i:=by lia
     subst e
     split
     ·rw[<- h2]; assumption
     ·rw[<- h2]; exact zAM _ (zAk.mpr rfl)
  refine zCz ⟨plainId_quiet PyProof.Rows.F.plain_set_update_loop _,ih (i+1) _ ks' (by lia) (by lia) (W.frame _ s' _ _ st' (zBl _) fun b hb o e=>?_) g2 mem' len' fun s2 ks2 hm2 g3 m3 l3=>?_⟩
  ·rw[sb.2 b (fun z:b=S=>nS (by rw[<- z]; exact hb))]; exact e
  ·refine fin s2 ks2 (Moved.trans W.gtrans ((hm.mono sub).then_heap (zBl _) fun b o hb e=>?_) hm2) g3 m3 l3
   rw[sb.2 b (fun z:b=S=>hb (by rw[z]; exact zAj))]; exact e
end
section
variable {prog:Program} {w:World} {A:Around} {E:Value->Shared->Prop} {s:Shared}
abbrev Ih (w:World):Obj:={ cls:=.type "set",dict:=none,data:=.set #[] 0 (.fresh 0 0 (!w.params.followText "set-order")) }
theorem DQ {h:Heap} {a:Addr} (ho:h.get? a=some (Ih w)):GSet (intKind prog w) h a []:=by
 refine⟨_,#[],0,_,ho,⟨rfl,rfl,rfl⟩,rfl,.nil,zCn,by decide,rfl,?_⟩;exact Te (w.params.followText "set-order")
theorem set_of_list {l:Addr} {items:Array Value} {ns:List Int} {Q:Value->Shared->Prop} (hh:A.handled=none) (hl:s.heap.IsList l items) (hi:PyProof.Rows.IntsAre items.toList ns) (hb:items.size+1<scanBound)
  (h:∀ (h':Heap) (tk:Nat) (ks:List Int),GSet (intKind prog w) h' s.heap.objs.size ks->(∀ y,y∈ks↔y∈ns)->ks.length<=items.size->(∀ b o,s.heap.get? b=some o->h'.get? b=some o)->Q (.ref s.heap.objs.size) { s with heap:=h',toks:=tk }) :
  wpAny (model prog w) A (call (.type "set") [.ref l]) Q E s:=by
 obtain⟨c,tl,hmro⟩:=F.called_set.mro;have hmade:=F.called_set.made;have hsub:=F.called_set.sub;have h1:=F.called_set.notType;have h2:=F.called_set.canCreate;have hct:=F.typeCall_set_1 (.ref l);refine wpAny_call (codeAny_of_tree (show wpAny _ _ (callAny (.type "set") _) _ _ _ from ?_));refine zCz ⟨Code.quiet_builtin _ (by ac_nf),codeAny_builtin F.entry_type_call ?_⟩;rw[Around.under_plain (weight_type_call_type "set" [.ref l] []) rfl]
 repeat (any_goals (first | assumption | wp_step))
 refine codeAny_mono (V4 (x:=.ref l) (E:=E) (Q:=fun v s₁ => v = .ref s.heap.objs.size/\s₁ = { s with heap:=s.heap.push (Ih w) }) ⟨rfl,rfl⟩) fun r s₁ hr=>?_;cases r with
 | error e=>exact hr
 | ok fl=>
  cases fl with
  | ret obj=>
   obtain⟨rfl,rfl⟩:=hr;have at0:(s.heap.push (Ih w)).get? s.heap.objs.size=some (Ih w):=zAt _ rfl;have hT:Shared.TypeIs { s with heap:=s.heap.push (Ih w) } (.ref s.heap.objs.size) "set" := ⟨_,at0,rfl⟩;have hli:=F.called_set.init.lookup;have hbi:=F.called_set.init.bind (.ref s.heap.objs.size)
   repeat (any_goals (first | assumption | wp_step))
   refine codeAny_mono (codeAny_call_builtin (R:=wants (fun r s₂ => r = .none/\∃ h' tk ks,s₂ = { s with heap:=h',toks:=tk }/\GSet (intKind prog w) h' s.heap.objs.size ks/\(∀ y,y∈ks↔y∈ns)/\ks.length<=items.size/\(∀ b o,s.heap.get? b=some o->h'.get? b=some o)) E)
    F.called_set.init.plain F.entry_set_init (check_set_init_1 hT ?_)) fun r₂ s₂ hr₂ => ?_
   ·obtain⟨⟨oc,od,odt,osl⟩,hol,hcl,nl,hdl⟩:=id hl
    simp only at hcl hdl;subst hcl hdl;have old:(s.heap.push (Ih w)).get? l=some { cls:=.type "list",dict:=od,data:=.seq items nl,slots:=osl }:=zAe _ hol;have il:(s.heap.push (Ih w)).IsList l items:=⟨_,old,rfl,nl,rfl⟩;have lt:l<s.heap.objs.size:=zAq hol;have u1:=F.sub_list_set;have u2:=F.sub_list_frozenset;have u3:(Value.type "list" == Value.type "dict")=false:=by decide
    unfold Builtin.«set.__init__» noKeywords Builtin.Frozenset.updateFrom;generalize hPI:pyIter=PI
    wp_walk
    subst hPI;refine wpAny_pyIter_list il (zCy (wpAny_runValue ?_));have sz:(s.heap.push (Ih w)).objs.size=s.heap.objs.size+1:=zBp ..;have ne:l≠(s.heap.push (Ih w)).objs.size:=by rw[sz]; exact zAu (zBz lt)
    have h3:A.in1.in1.in1.handled=none:=by simp [hh]
    have nf:s.heap.objs.size∉[(s.heap.push (Ih w)).objs.size,l]:=by
     rw[sz];intro z;rcases zAo.mp z with z | z
     ·exact absurd z (zAu (zBB _))
     ·exact absurd (zAk.mp z) (zBk lt)
    have hv:∀ (i:Nat) (v:Value),items[i]?=some v->∃ t,v = .int ((fun i=>ns.getD i 0) i) t:=fun i v e=>PyProof.Rows.IntsAre.int_at hi i v (by rw[zBf]; exact e);have ln:items.size=ns.length:=by rw[<- zAC]; exact hi.length
    refine Ze ((Walks.list h3 _ l ne items).toS) s.heap.objs.size nf (fun i=>ns.getD i 0) hv hb (items.size-0) 0 _ [] (by lia) (zAB _) ⟨⟨_,zAt _ rfl,rfl,rfl⟩,il.push _⟩ (DQ (zAe _ at0)) (fun y=>⟨fun z=>(nomatch z),fun ⟨j,z,_⟩=>absurd z (zBm _)⟩) (zAB _) fun s' ks hm g m ln'=>?_;obtain⟨h',g',d',tk',os'⟩:=s';have eg:g'=s.gens:=hm.gens;have ed:d'=s.drawn:=hm.drawn;have eo:os'=s.os:=hm.os;subst eg ed eo;refine zCz (zCz ⟨rfl,h',tk',ks,rfl,g,fun y=>?_,ln',fun b o e=>?_⟩)
    ·rw[m y]
     constructor
     ·rintro ⟨j,z1,z2⟩
      rw[<- z2];show ns.getD j 0∈ns;rw[zAs,zAd (by lia)];exact zAZ _
     ·intro z
      obtain⟨j,hj,e⟩:=zAU z;refine⟨j,by lia,?_⟩;show ns.getD j 0=y;rw[zAs,zAd hj];exact e
    ·refine hm.heap b o (fun z=>?_) (zAe _ (zAe _ e))
     have lb:=zAq e;rcases zAo.mp z with z | z
     ·exact absurd z (zAu lb)
     ·exact absurd (zAk.mp z) (by rw[sz]; exact zAu (zBz lb))
   ·cases r₂ with
    | error e=>exact hr₂
    | ok fl₂ =>
     cases fl₂ with
     | ret r=>
      obtain⟨rfl,h',tk,ks,rfl,g,m,ln,k⟩:=hr₂
      repeat (any_goals (first | assumption | wp_step))
      exact h _ _ ks g m ln k
     | _=>exact hr₂.elim
  | _=>exact hr.elim
end
end CST
namespace CST
open PySem PyProof.Rows
section
variable {prog:Program} {w:World} {A:Around} {E:Value->Shared->Prop} {s:Shared}
theorem Pb:∀ {l:List (Int×Value)} {ks:List Int},Paired (JA (intKind prog w)) l ks->IntsAre (l.map (·.2)) ks
 | _,_,.nil=>.nil
 | e::l,k::ks,.cons r t=>by
  obtain⟨tk,h⟩:=Value.isInt_shape r.1;rw[zAN,h];exact .cons k tk (Pb t)
theorem Y8:∀ {vs us:List Value},vs.Perm us->∀ {ns:List Int},IntsAre us ns->∃ ms:List Int,IntsAre vs ms/\ms.Perm ns:=by
 intro vs us p;have q:=p.symm;clear p
 induction q with
 | nil=>intro ns h; exact⟨ns,h,List.Perm.refl _⟩
 | cons x _ ih=>
  intro ns h;cases h with
  | cons n t r=>
   obtain⟨ms,h1,h2⟩:=ih r;exact⟨n::ms,.cons n t h1,h2.cons n⟩
 | swap x y l=>
  intro ns h;cases h with
  | cons n t r=>
   cases r with
   | cons m u r2=>exact⟨_,.cons m u (.cons n t r2),List.Perm.swap _ _ _⟩
 | trans _ _ ih1 ih2=>
  intro ns h;obtain⟨m1,h1,p1⟩:=ih1 h;obtain⟨m2,h2,p2⟩:=ih2 h1;exact⟨m2,h2,p2.trans p1⟩
theorem sorted_set {a:Addr} {ks:List Int} {Q:Value->Shared->Prop} (hh:A.handled=none) (g:GSet (intKind prog w) s.heap a ks) (h64:ks.length<64)
  (h:∀ (s':Shared) (l:Addr) (out:Array Value) (ms:List Int) (e:Nat),IntsAre out.toList ms->ms.Perm ks->ms.Pairwise (· <= ·)->(∀ b o,s.heap.get? b=some o->s'.heap.get? b=some o)->a<l->s'.heap.get? l=some (seqObj "list" out e)->s'.gens=s.gens->s'.os=s.os->Q (.ref l) s') :
  wpAny (model prog w) A (call (.builtin "sorted") [.ref a]) Q E s:=by
 obtain⟨o,es,ep,t,ho,hex,hd,hp,nd,hb,hf,gd⟩:=g;have lk:es.size=ks.length:=by rw[<- zAC]; exact Paired.length hp
 have line:es.size<=sizeLine:=by rw[zCA]; lia
 refine Calls.call_function_entry kind_sorted plain_sorted entry_sorted (args_sorted1 _) ?_;unfold Builtin.«sorted»;refine zCy (m:=checkCount "sorted" 1 1 _) (zCz (zCy (C5 (by exact hh) hex.1 ho hd hf gd line fun s' vs pm k eg eo=>?_)));have lv:vs.length=ks.length:=by rw[pm.length_eq,zAb,zAC,lk]
 obtain⟨ms,im,mp⟩:=Y8 pm (Pb hp);refine zCy (wpAny_newList ?_ (by rw[lv,<- lk]; exact line));have at1:(s'.heap.push (seqObj "list" vs.toArray 0)).get? s'.heap.objs.size=some (seqObj "list" vs.toArray 0):=zAt _ rfl;refine zCy (wpAny_holding (wpAny_call_entry slot_list_sort ⟨_,at1,rfl⟩ entry_list_sort (list_sort_tree (s:={ s' with heap:=s'.heap.push (seqObj "list" vs.toArray 0) }) at1 im (by lia) fun out ns' a1 a2 a3=>⟨_,rfl,?_⟩) (args_list_sort _)));refine zCz ⟨_,rfl,?_⟩;obtain⟨e,he⟩:=sortedHeap_at (out:=out) at1;have lt:∀ b ob,s.heap.get? b=some ob->b<s'.heap.objs.size:=fun b ob z=>zAq (k b ob z);refine h _ s'.heap.objs.size out ns' e a1 (a2.trans mp) a3 (fun b ob z=>?_) ?_ he eg eo
 ·show (sortedHeap _ _ _ _).get? b=_
  rw[sortedHeap_old (zAu (lt b ob z)) (by rw[size_push']; exact zBz (lt b ob z))];exact zAe _ (k b ob z)
 ·exact lt a o ho
end
end CST
namespace L2
open PySem PySem.Spec PyProof.Rows PySem.W
theorem Vm:∀ {us:List Value} {ns:List Int},IntsAre us ns->Vals (ns.map V.int) us
 | _,_,.nil=>.nil
 | _,_,.cons n t r=>.cons ⟨t,rfl⟩ (Vm r)
section
variable {X:Cx}
def BK (K:zAa) (te:TE):TE:=fun σ H Q=>te σ H fun x H1=>∃ (a:Addr) (ns:List Int),x = .ref a/\SqL K H1 a (ns.map V.int)/\ns.length<64 /\
 ∀ (l:Addr) (ms:List Int),H1 l=none->ms.Pairwise (· < ·)->(∀ y,y∈ms↔y∈ns)->Q (.ref l) (upd H1 l (.lst (ms.map V.int)))
theorem Oz:∀ {ms:List Int},ms.Pairwise (· <= ·)->ms.Nodup->ms.Pairwise (· < ·)
 | [],_,_=>.nil
 | x::ms,h,n=>by
  rw[zAJ] at h;rw[zAT] at n;rw[zAJ];refine⟨fun y hy=>?_,Oz h.2 n.2⟩;have:=h.1 y hy;have ne:x≠y:=fun z=>n.1 (by rw[z]; exact hy)
  lia
theorem F6 {e:Expr} {te:TE} {p1 p2 pos1 pos2:Pos} (he:PE X e te) (hc:X.calm=true) (hg1:Gl X "sorted") (hm1:X.mg "sorted" = none) (hg2:Gl X "set") (hm2:X.mg "set" = none)
  (hv1:zCB "sorted" = some (.builtin "sorted"):=by rfl) (hv2:zCB "set" = some (.type "set"):=by rfl)
  (hs1:starEach [.Call (.Name "set" p2) [e] [] pos2] X.env=[(false,eval (.Call (.Name "set" p2) [e] [] pos2) X.env)]:=by rfl) (hs2:starEach [e] X.env=[(false,eval e X.env)]:=by rfl) :
  PE X (.Call (.Name "sorted" p1) [.Call (.Name "set" p2) [e] [] pos2] [] pos1) (BK X.K te):=by
 intro pins s σ H Q I h;refine wpAny_Call_Name_kw (Hu I hg1 hm1 hv1 ?_ (by decide) (by decide));refine PyProof.Rows.callWith_builtin1 ?_ hs1 rfl;rw[hs1];show wpAny _ _ (spliced ((false,eval (.Call (.Name "set" p2) [e] [] pos2) X.env)::backTo pos1 [])) _ _ s;refine Calls.spliced_cons ?_;refine wpAny_Call_Name_kw (Hu I hg2 hm2 hv2 ?_ (by decide) (by decide));refine PyProof.Rows.callWith_type1 ?_ hs2 rfl;rw[hs2];show wpAny _ _ (spliced ((false,eval e X.env)::backTo pos2 [])) _ _ s;refine Calls.spliced_cons (Cs (he pins s σ H _ I h) fun u s1 ⟨x,H1,I1,r1,a,ns,ex,hq,l64,q⟩=>?_);subst ex;cases r1;refine Calls.spliced_nil ?_;obtain⟨its,rv,pl,hz⟩:=I1.list hq;have hl:=rv.length;rw[zAb] at hl;have hh:X.A.handled=none:=I.ok.hd hc;refine CST.set_of_list (items:=its.toArray) (ns:=ns) hh pl.isList (Qm rv) (by rw[zAh]; unfold scanBound; lia) fun h2 tk ks g mem len k2=>?_;refine Calls.spliced_nil ?_;rw[zAh] at len;refine CST.sorted_set (s:={ s1 with heap:=h2,toks:=tk }) hh g (by lia) fun s' l out ms ee im pm pw k3 al hl' eg eo=>?_;have nd:ms.Nodup:=by
  obtain⟨_,_,_,_,_,_,_,_,nd,_⟩:=g;exact pm.nodup_iff.mpr nd
 have lt:=Oz pw nd;have kk:∀ b ob,s1.heap.get? b=some ob->s'.heap.get? b=some ob:=fun b ob z=>k3 b ob (k2 b ob z);have le:s1.heap.objs.size<=l:=Nat.le_of_lt al;have lp:(ms.map V.int).length<=sizeLine:=by rw[zAb,pm.length_eq,zCA]; lia
 have new:ObjOk X.prog X.w (upd H1 l (.lst (ms.map V.int))) s'.heap l (.lst (ms.map V.int)):=⟨lp,out.toList,ee,Vm im,hl'⟩;refine⟨.ref l,upd H1 l (.lst (ms.map V.int)),I1.call' (s':=s') (ch:=[]) eo (Un.laid kk le (I1.hok.fresh le)) (I1.hok.laid kk le new) (by rw[eg]; exact I1.bare) (fun b z=>(nomatch z)),rfl,q l ms (I1.hok.fresh le) lt fun y=>?_⟩;rw[pm.mem_iff];exact mem y
theorem Qu {ns:List Int} {its:List Value} (rv:Vals (ns.map V.int) its):∃ ys,its.toArray=intItems ys/\ys.size=ns.length/\∀ i,(h:i<ns.length)->numAt ys i=ns[i]:=by
 have hi:IntsAre its ns:=Md rv;obtain⟨ys,ey⟩:=hi.allInts.items;have lenI:its.length=ns.length:=hi.length;have hy:ys.size=ns.length:=by
  have z:=congrArg Array.size ey;rw[zAh] at z;unfold intItems at z;rw[Array.size_map] at z
  lia
 refine⟨ys,ey,hy,fun i h=>?_⟩;obtain⟨u,hu,t,ru⟩:=rv.get (i:=i) (x:=.int ns[i]) (by rw[zAw,zAd h]; rfl);have e1:(intItems ys)[i]?=some u:=by rw[<- ey,zBV]; exact hu
 obtain⟨t',e2⟩:=intItems_at e1;rw[ru] at e2;injection e2 with e3;exact e3.symm
def IR (K:zAa) (le:Int->Int->Prop):List V->Hp->VK->Prop:=fun xs H Q=>∃ p,∃ ns:List Int,xs=[.ref p]/\SqL K H p (ns.map V.int)/\ns≠[]/\∀ m∈ns,(∀ k∈ns,le m k)->Q (.int m) H
theorem Z8 (hc:X.calm=true):Gf X (.builtin "min") (IR X.K (fun m k=>m<=k)):=by
 intro pins s σ H xs us Q I r h;obtain⟨p,ns,rfl,hq,hne,q⟩:=h;obtain⟨u,rfl,rx⟩:=Ji r;cases rx;obtain⟨its,rv,pl,hz⟩:=I.list hq;obtain⟨ys,ey,hy,hn⟩:=Qu rv;have hl:s.heap.IsList p (intItems ys):=ey▸pl.isList;have hpos:0<ns.length:=List.length_pos_iff.mpr hne;refine min_intList (I.ok.hd hc) hl (by lia) fun v h' tk hv hk=>?_;obtain⟨b1,b2⟩:=argBest_lt (numAt ys) (ys.size-1);obtain⟨t,rfl⟩:=intItems_at hv;generalize argBest (fun i j=>decide (numAt ys i<numAt ys j)) (ys.size-1)=z at b1 b2;have zl:z<ns.length:=by lia
 refine⟨.int (numAt ys z),H,I.kept hk,⟨t,rfl⟩,q _ ?_ fun k hk'=>?_⟩
 ·rw[hn z zl]
  exact zAZ _
 ·obtain⟨j,hj,e⟩:=zAU hk'
  rw[<- e,<- hn j hj];exact b2 j (by lia)
theorem AJ (hc:X.calm=true):Gf X (.builtin "max") (IR X.K (fun m k=>k<=m)):=by
 intro pins s σ H xs us Q I r h;obtain⟨p,ns,rfl,hq,hne,q⟩:=h;obtain⟨u,rfl,rx⟩:=Ji r;cases rx;obtain⟨its,rv,pl,hz⟩:=I.list hq;obtain⟨ys,ey,hy,hn⟩:=Qu rv;have hl:s.heap.IsList p (intItems ys):=ey▸pl.isList;have hpos:0<ns.length:=List.length_pos_iff.mpr hne;refine max_intList (I.ok.hd hc) hl (by lia) fun v h' tk hv hk=>?_;obtain⟨b1,b2⟩:=argBest_gt (numAt ys) (ys.size-1);obtain⟨t,rfl⟩:=intItems_at hv;generalize argBest (fun i j=>decide (numAt ys i>numAt ys j)) (ys.size-1)=z at b1 b2;have zl:z<ns.length:=by lia
 refine⟨.int (numAt ys z),H,I.kept hk,⟨t,rfl⟩,q _ ?_ fun k hk'=>?_⟩
 ·rw[hn z zl]
  exact zAZ _
 ·obtain⟨j,hj,e⟩:=zAU hk'
  rw[<- e,<- hn j hj];exact b2 j (by lia)
def DS:V->List V->Hp->VK->Prop:=fun x vs H Q=>∃ l b xs zs,x = .ref l/\vs=[.ref b]/\H l=some (.lst xs)/\H b=some (.tup zs)/\xs.length+zs.length<=sizeLine/\Q .non (upd H l (.lst (xs++zs)))
theorem O6:OC X "list.extend" DS:=by
 intro pins s σ H x vs v us Q I rx rv h;obtain⟨l,b,xs,zs,rfl,rfl,hH,hB,hz,q⟩:=h;cases rx;obtain⟨u,rfl,ru⟩:=rv.one;cases ru;obtain⟨z,its,n,r,hl,e⟩:=I.lstM hH;obtain⟨z2,its2,r2,ob,e2,hc2,n2,hd2⟩:=(show ObjOk X.prog X.w H s.heap b (.tup zs) from I.hok b _ hB);have l1:=r.length;have l2:=r2.length;have sz:its.toArray.size+its2.toArray.size<=sizeLine:=by rw[zAh,zAh]; lia
 have no:¬ (!its.toArray.isEmpty&&Builtin.List.listTooLong (its.toArray.size+its2.toArray.size))=true:=by rw[Zi sz,zCm]; exact zAl
 refine wpAny_call_entry F.slot_list_extend ⟨_,e,rfl⟩ F.entry_list_extend ?_ (F.args_list_extend_2 _ _);show wpAny _ _ (Builtin.List.listExtendWith (.ref l) (.ref b) .none) _ _ _;unfold Builtin.List.listExtendWith;refine zCy (wpAny_typeOf (T := "tuple") ⟨_,e2,hc2⟩ ?_);rw[if_pos (by simp)];refine zCy (listItems_at e2 hd2 (zCy (listItems_at e rfl ?_)));rw[if_neg no];refine zCy (listUpdate_at e rfl ?_ (by rw[zAh]; lia) (by rw[Array.size_append]; lia));refine zCz ⟨_,rfl,.non,_,I.lset (its':=its++its2) hH e (by simp) (r.append r2) ?_,rfl,q⟩;rw[zAm]
 lia
end
end L2
namespace L2
open PySem PySem.Spec PyProof.Rows
def OK (K:zAa) (neg:Bool):R2:=fun x y H Q=>∃ a b xs,x = .ref a/\y = .ref b/\SqL K H a xs/\SqL K H b []/\Q (.bl (if neg then !xs.isEmpty else xs.isEmpty)) H
theorem KI {X:Cx} (hu:X.A.units<cLine):Ko X (compareOp .NotEq) (OK X.K true):=by
 intro pins s σ H x y v u Q I rx ry h;obtain⟨a,b,xs,rfl,rfl,h1,h2,q⟩:=h;cases rx;cases ry;obtain⟨its,r1,p1,z1⟩:=I.list h1;obtain⟨js,r2,p2,z2⟩:=I.list h2;cases r2;have l1:=r1.length;cases xs with
 | nil=>
  cases r1
  refine (SeqAt.RcNeAt.lists (e:=fun _=>true) p1.isList p2.isList rfl hu (fun j hj _=>absurd hj (by simp)):SeqAt.RcNeAt X.A s _ _ _) X.prog X.w _ _ ?_;exact⟨.bl false,H,I,rfl,q⟩
 | cons x xs=>
  refine (SeqAt.RcNeAt.lists_lengths p1.isList p2.isList (by rw[zAf] at l1; simp only [zAh,bne_iff_ne,ne_eq,zBL]; lia) hu:SeqAt.RcNeAt X.A s _ _ _) X.prog X.w _ _ ?_;exact⟨.bl true,H,I,rfl,q⟩
inductive Co where
 | alw | cau (n:Str) | thi (n:Str) | day (a b:Int) | ovr (m:Int)
inductive Gx where
 | at (c:Co) | no (t:Gx) | al (ts:List Gx) | so (ts:List Gx)
structure A8 where
 a0:Addr
 a1:Addr
 a2:Addr
 a3:Addr
 a4:Addr
 a5:Addr
 a6:Addr
 a7:Addr
def A8.l (κ:A8):List Addr:=[κ.a0,κ.a1,κ.a2,κ.a3,κ.a4,κ.a5,κ.a6,κ.a7]
def A8.cl (κ:A8) (i:Nat):Addr:=κ.l.getD i 0
theorem A8.inj {κ:A8} (nd:κ.l.Nodup) {i j:Nat} (hi:i<8) (hj:j<8) (h:κ.cl i=κ.cl j):i=j:=by
 have hl:κ.l.length=8:=rfl;unfold A8.cl at h;rw[zAs,zAs,zAd (by lia),zAd (by lia)] at h;have p:=zBb.mp nd;rcases zBH i j with c | c | c
 ·exact absurd h (p i j (by lia) (by lia) c)
 ·exact c
 ·exact absurd h.symm (p j i (by lia) (by lia) c)
def kd:Gx->Nat
 | .at .alw=>0
 | .at (.cau _)=>1
 | .at (.thi _)=>2
 | .at (.day _ _)=>3
 | .at (.ovr _)=>4
 | .no _=>5
 | .al _=>6
 | .so _=>7
theorem Ph (t:Gx):kd t<8:=by
 cases t with
 | «at» c=>cases c <;> simp [kd]
 | no t=>exact (by decide:5<8)
 | al ts=>exact (by decide:6<8)
 | so ts=>exact (by decide:7<8)
def A8.of (κ:A8) (t:Gx):Addr:=κ.cl (kd t)
def A8.Fam (κ:A8) (C:Addr):Prop:=C=κ.a0\/C=κ.a1\/C=κ.a2\/C=κ.a3\/C=κ.a4\/C=κ.a5\/C=κ.a6\/C=κ.a7
theorem A8.fam (κ:A8) (t:Gx):κ.Fam (κ.of t):=by
 cases t with
 | «at» c=>
  cases c with
  | alw=>exact .inl rfl
  | cau _=>exact .inr (.inl rfl)
  | thi _=>exact .inr (.inr (.inl rfl))
  | day _ _=>exact .inr (.inr (.inr (.inl rfl)))
  | ovr _=>exact .inr (.inr (.inr (.inr (.inl rfl))))
 | no t=>exact .inr (.inr (.inr (.inr (.inr (.inl rfl)))))
 | al ts=>exact .inr (.inr (.inr (.inr (.inr (.inr (.inl rfl))))))
 | so ts=>exact .inr (.inr (.inr (.inr (.inr (.inr (.inr rfl))))))
section
variable {κ:A8} {t:Gx}
theorem RJ (nd:κ.l.Nodup) (h:κ.of t=κ.a0):t = .at .alw:=by
 have e:kd t=0:=A8.inj nd (Ph t) (by decide) h;cases t with
 | «at» c=>cases c <;> first | rfl | (simp [kd] at e)
 | _=>simp [kd] at e
theorem QW (nd:κ.l.Nodup) (h:κ.of t=κ.a1):∃ n,t = .at (.cau n):=by
 have e:kd t=1:=A8.inj nd (Ph t) (by decide) h;cases t with
 | «at» c=>cases c <;> first | exact⟨_,rfl⟩ | (simp [kd] at e)
 | _=>simp [kd] at e
theorem RF (nd:κ.l.Nodup) (h:κ.of t=κ.a2):∃ n,t = .at (.thi n):=by
 have e:kd t=2:=A8.inj nd (Ph t) (by decide) h;cases t with
 | «at» c=>cases c <;> first | exact⟨_,rfl⟩ | (simp [kd] at e)
 | _=>simp [kd] at e
theorem RK (nd:κ.l.Nodup) (h:κ.of t=κ.a3):∃ a b,t = .at (.day a b):=by
 have e:kd t=3:=A8.inj nd (Ph t) (by decide) h;cases t with
 | «at» c=>cases c <;> first | exact⟨_,_,rfl⟩ | (simp [kd] at e)
 | _=>simp [kd] at e
theorem QU (nd:κ.l.Nodup) (h:κ.of t=κ.a4):∃ n,t = .at (.ovr n):=by
 have e:kd t=4:=A8.inj nd (Ph t) (by decide) h;cases t with
 | «at» c=>cases c <;> first | exact⟨_,rfl⟩ | (simp [kd] at e)
 | _=>simp [kd] at e
theorem RB (nd:κ.l.Nodup) (h:κ.of t=κ.a5):∃ u,t = .no u:=by
 have e:kd t=5:=A8.inj nd (Ph t) (by decide) h;cases t with
 | «at» c=>cases c <;> simp [kd] at e
 | no u=>exact⟨_,rfl⟩
 | _=>simp [kd] at e
theorem RE (nd:κ.l.Nodup) (h:κ.of t=κ.a6):∃ u,t = .al u:=by
 have e:kd t=6:=A8.inj nd (Ph t) (by decide) h;cases t with
 | «at» c=>cases c <;> simp [kd] at e
 | al u=>exact⟨_,rfl⟩
 | _=>simp [kd] at e
theorem RC (nd:κ.l.Nodup) (h:κ.of t=κ.a7):∃ u,t = .so u:=by
 have e:kd t=7:=A8.inj nd (Ph t) (by decide) h;cases t with
 | «at» c=>cases c <;> simp [kd] at e
 | so u=>exact⟨_,rfl⟩
 | _=>simp [kd] at e
end
def Ks:Co->List (Str×V)
 | .alw=>[]
 | .cau n=>Bs "name" (.str n) []
 | .thi n=>Bs "name" (.str n) []
 | .day a b=>Bs "last" (.int b) (Bs "first" (.int a) [])
 | .ovr m=>Bs "cents" (.int m) []
mutual
def CdAt (κ:A8) (H:Hp):V->Gx->Prop
 | v,.at c=>∃ p dx,v = .ref p/\H p=some (.ins (κ.of (.at c)) dx (Ks c))
 | v,.no t=>∃ p dx w,v = .ref p/\H p=some (.ins κ.a5 dx (Bs "part" w []))/\CdAt κ H w t
 | v,.al ts=>∃ p dx l vs,v = .ref p/\H p=some (.ins κ.a6 dx (Bs "several" (.ref l) []))/\H l=some (.lst vs)/\CdsAt κ H vs ts
 | v,.so ts=>∃ p dx l vs,v = .ref p/\H p=some (.ins κ.a7 dx (Bs "several" (.ref l) []))/\H l=some (.lst vs)/\CdsAt κ H vs ts
def CdsAt (κ:A8) (H:Hp):List V->List Gx->Prop
 | [],[]=>True
 | v::vs,t::ts=>CdAt κ H v t/\CdsAt κ H vs ts
 | [],_::_=>False
 | _::_,[]=>False
end
mutual
def TrAt (H:Hp):V->Gx->Prop
 | v,.at .alw=>∃ p,v = .ref p/\H p=some (.tup [.str "always"])
 | v,.at (.cau n)=>∃ p,v = .ref p/\H p=some (.tup [.str "cause",.str n])
 | v,.at (.thi n)=>∃ p,v = .ref p/\H p=some (.tup [.str "thing",.str n])
 | v,.at (.day a b)=>∃ p,v = .ref p/\H p=some (.tup [.str "days",.int a,.int b])
 | v,.at (.ovr m)=>∃ p,v = .ref p/\H p=some (.tup [.str "over",.int m])
 | v,.no t=>∃ p w,v = .ref p/\H p=some (.tup [.str "not",w])/\TrAt H w t
 | v,.al ts=>∃ p l vs,v = .ref p/\H p=some (.tup [.str "all",.ref l])/\H l=some (.lst vs)/\TrsAt H vs ts
 | v,.so ts=>∃ p l vs,v = .ref p/\H p=some (.tup [.str "some",.ref l])/\H l=some (.lst vs)/\TrsAt H vs ts
def TrsAt (H:Hp):List V->List Gx->Prop
 | [],[]=>True
 | v::vs,t::ts=>TrAt H v t/\TrsAt H vs ts
 | [],_::_=>False
 | _::_,[]=>False
end
mutual
def Ow:Gx->Nat
 | .at _=>0
 | .no t=>Ow t+1
 | .al ts=>hgts ts+1
 | .so ts=>hgts ts+1
def hgts:List Gx->Nat
 | []=>0
 | t::ts=>max (Ow t) (hgts ts)
end
structure LS where
 d:Int
 th:Str
 ca:Str
 ct:Int
def JV:Co->LS->Bool
 | .alw,_=>true
 | .cau n,x=>decide (V.str x.ca=V.str n)
 | .thi n,x=>decide (V.str x.th=V.str n)
 | .day a b,x=>decide (a<=x.d)&&decide (x.d<=b)
 | .ovr m,x=>decide (m<x.ct)
mutual
def hT:Gx->LS->Bool
 | .at c,x=>JV c x
 | .no t,x => !hT t x
 | .al ts,x=>hAll ts x
 | .so ts,x=>hSom ts x
def hAll:List Gx->LS->Bool
 | [],_=>true
 | t::ts,x=>hT t x&&hAll ts x
def hSom:List Gx->LS->Bool
 | [],_=>false
 | t::ts,x=>hT t x||hSom ts x
end
mutual
theorem CdAt.same {κ:A8} {H H':Hp} (s:Same H H'):∀ {v:V} (t:Gx),CdAt κ H v t->CdAt κ H' v t
 | v,.at c,h=>by
  unfold CdAt at h ⊢;obtain⟨p,dx,e,h⟩:=h;exact⟨p,dx,e,s _ _ h⟩
 | v,.no t,h=>by
  unfold CdAt at h ⊢;obtain⟨p,dx,w,e,h,r⟩:=h;exact⟨p,dx,w,e,s _ _ h,CdAt.same s t r⟩
 | v,.al ts,h=>by
  unfold CdAt at h ⊢;obtain⟨p,dx,l,vs,e,h,g,r⟩:=h;exact⟨p,dx,l,vs,e,s _ _ h,s _ _ g,CdsAt.same s ts r⟩
 | v,.so ts,h=>by
  unfold CdAt at h ⊢;obtain⟨p,dx,l,vs,e,h,g,r⟩:=h;exact⟨p,dx,l,vs,e,s _ _ h,s _ _ g,CdsAt.same s ts r⟩
theorem CdsAt.same {κ:A8} {H H':Hp} (s:Same H H'):∀ {vs:List V} (ts:List Gx),CdsAt κ H vs ts->CdsAt κ H' vs ts
 | [],[],_=>by unfold CdsAt; trivial
 | v::vs,t::ts,h=>by
  unfold CdsAt at h ⊢;exact⟨CdAt.same s t h.1,CdsAt.same s ts h.2⟩
 | [],_::_,h=>by unfold CdsAt at h; exact h.elim
 | _::_,[],h=>by unfold CdsAt at h; exact h.elim
end
mutual
theorem TrAt.same {H H':Hp} (s:Same H H'):∀ {v:V} (t:Gx),TrAt H v t->TrAt H' v t
 | v,.at .alw,h=>by unfold TrAt at h ⊢; obtain⟨p,e,h⟩:=h; exact⟨p,e,s _ _ h⟩
 | v,.at (.cau n),h=>by unfold TrAt at h ⊢; obtain⟨p,e,h⟩:=h; exact⟨p,e,s _ _ h⟩
 | v,.at (.thi n),h=>by unfold TrAt at h ⊢; obtain⟨p,e,h⟩:=h; exact⟨p,e,s _ _ h⟩
 | v,.at (.day a b),h=>by unfold TrAt at h ⊢; obtain⟨p,e,h⟩:=h; exact⟨p,e,s _ _ h⟩
 | v,.at (.ovr m),h=>by unfold TrAt at h ⊢; obtain⟨p,e,h⟩:=h; exact⟨p,e,s _ _ h⟩
 | v,.no t,h=>by
  unfold TrAt at h ⊢;obtain⟨p,w,e,h,r⟩:=h;exact⟨p,w,e,s _ _ h,TrAt.same s t r⟩
 | v,.al ts,h=>by
  unfold TrAt at h ⊢;obtain⟨p,l,vs,e,h,g,r⟩:=h;exact⟨p,l,vs,e,s _ _ h,s _ _ g,TrsAt.same s ts r⟩
 | v,.so ts,h=>by
  unfold TrAt at h ⊢;obtain⟨p,l,vs,e,h,g,r⟩:=h;exact⟨p,l,vs,e,s _ _ h,s _ _ g,TrsAt.same s ts r⟩
theorem TrsAt.same {H H':Hp} (s:Same H H'):∀ {vs:List V} (ts:List Gx),TrsAt H vs ts->TrsAt H' vs ts
 | [],[],_=>by unfold TrsAt; trivial
 | v::vs,t::ts,h=>by
  unfold TrsAt at h ⊢;exact⟨TrAt.same s t h.1,TrsAt.same s ts h.2⟩
 | [],_::_,h=>by unfold TrsAt at h; exact h.elim
 | _::_,[],h=>by unfold TrsAt at h; exact h.elim
end
theorem CdsAt.len {κ:A8} {H:Hp}:∀ {vs:List V} {ts:List Gx},CdsAt κ H vs ts->vs.length=ts.length
 | [],[],_=>rfl
 | v::vs,t::ts,h=>by
  unfold CdsAt at h;rw[zAf,zAf,CdsAt.len h.2]
 | [],_::_,h=>by unfold CdsAt at h; exact h.elim
 | _::_,[],h=>by unfold CdsAt at h; exact h.elim
theorem TrsAt.len {H:Hp}:∀ {vs:List V} {ts:List Gx},TrsAt H vs ts->vs.length=ts.length
 | [],[],_=>rfl
 | v::vs,t::ts,h=>by
  unfold TrsAt at h;rw[zAf,zAf,TrsAt.len h.2]
 | [],_::_,h=>by unfold TrsAt at h; exact h.elim
 | _::_,[],h=>by unfold TrsAt at h; exact h.elim
theorem CdsAt.get {κ:A8} {H:Hp}:∀ {vs:List V} {ts:List Gx} {i:Nat} {v:V},CdsAt κ H vs ts->vs[i]?=some v->∃ t,ts[i]?=some t/\CdAt κ H v t
 | [],[],_,_,_,e=>by simp at e
 | v::vs,t::ts,0,u,h,e=>by
  unfold CdsAt at h;simp at e;subst e;exact⟨t,rfl,h.1⟩
 | v::vs,t::ts,i+1,u,h,e=>by
  unfold CdsAt at h;obtain⟨t',e',r⟩:=CdsAt.get (i:=i) h.2 (by simpa using e);exact⟨t',by simpa using e',r⟩
 | [],_::_,_,_,h,_=>by unfold CdsAt at h; exact h.elim
 | _::_,[],_,_,h,_=>by unfold CdsAt at h; exact h.elim
theorem TrsAt.get {H:Hp}:∀ {vs:List V} {ts:List Gx} {i:Nat} {v:V},TrsAt H vs ts->vs[i]?=some v->∃ t,ts[i]?=some t/\TrAt H v t
 | [],[],_,_,_,e=>by simp at e
 | v::vs,t::ts,0,u,h,e=>by
  unfold TrsAt at h;simp at e;subst e;exact⟨t,rfl,h.1⟩
 | v::vs,t::ts,i+1,u,h,e=>by
  unfold TrsAt at h;obtain⟨t',e',r⟩:=TrsAt.get (i:=i) h.2 (by simpa using e);exact⟨t',by simpa using e',r⟩
 | [],_::_,_,_,h,_=>by unfold TrsAt at h; exact h.elim
 | _::_,[],_,_,h,_=>by unfold TrsAt at h; exact h.elim
theorem CdsAt.snoc {κ:A8} {H:Hp}:∀ {vs:List V} {ts:List Gx} {v:V} {t:Gx},CdsAt κ H vs ts->CdAt κ H v t->CdsAt κ H (vs++[v]) (ts++[t])
 | [],[],v,t,_,r=>by
  show CdsAt κ H [v] [t];unfold CdsAt;exact⟨r,by unfold CdsAt; trivial⟩
 | v::vs,t::ts,v',t',h,r=>by
  unfold CdsAt at h;show CdsAt κ H (v::(vs++[v'])) (t::(ts++[t']));unfold CdsAt;exact⟨h.1,CdsAt.snoc h.2 r⟩
 | [],_::_,_,_,h,_=>by unfold CdsAt at h; exact h.elim
 | _::_,[],_,_,h,_=>by unfold CdsAt at h; exact h.elim
theorem Qh {ts:List Gx} {t:Gx} {m:Nat} (h:hgts ts<m) (i:Nat) (e:ts[i]?=some t):Ow t<m:=by
 induction ts generalizing i with
 | nil=>simp at e
 | cons u us ih=>
  unfold hgts at h;cases i with
  | zero=>simp at e; subst e; lia
  | succ i=>exact ih (by lia) i (by simpa using e)
theorem Z3 {ts:List Gx} {t:Gx} {x:LS} {i:Nat} (e:ts[i]?=some t):hAll (ts.drop i) x=(hT t x&&hAll (ts.drop (i+1)) x):=by
 rw[zBw (zAi.mp e).1,(zAi.mp e).2,hAll]
theorem Z1 {ts:List Gx} {t:Gx} {x:LS} {i:Nat} (e:ts[i]?=some t):hSom (ts.drop i) x=(hT t x||hSom (ts.drop (i+1)) x):=by
 rw[zBw (zAi.mp e).1,(zAi.mp e).2,hSom]
theorem OM:¬ (("first" : Str) = "last"):=by ac_nf
theorem BW (n:Str):(Ks (.cau n)).lookup ("name" : Str)=some (.str n):=by unfold Ks; rw[Bi,if_pos rfl]
theorem EY (n:Str):(Ks (.thi n)).lookup ("name" : Str)=some (.str n):=by unfold Ks; rw[Bi,if_pos rfl]
theorem GN (a b:Int):(Ks (.day a b)).lookup ("last" : Str)=some (.int b):=by unfold Ks; rw[Bi,if_pos rfl]
theorem EK (a b:Int):(Ks (.day a b)).lookup ("first" : Str)=some (.int a):=by unfold Ks; rw[Bi,if_neg OM,Bi,if_pos rfl]
theorem FD (m:Int):(Ks (.ovr m)).lookup ("cents" : Str)=some (.int m):=by unfold Ks; rw[Bi,if_pos rfl]
theorem M0 (f:Str) (v:V):(Bs f v []).lookup f=some v:=by rw[Bi,if_pos rfl]
theorem Fp {f g:Str} (h:¬ g=f) (v:V):(Bs f v []).lookup g=none:=by rw[Bi,if_neg h]; rfl
theorem R0 (c:Co) {m:Str} (h1:¬ m = "name") (h2:¬ m = "first") (h3:¬ m = "last") (h4:¬ m = "cents"):(Ks c).lookup m=none:=by
 cases c with
 | alw=>rfl
 | cau n=>unfold Ks; rw[Bi,if_neg h1]; rfl
 | thi n=>unfold Ks; rw[Bi,if_neg h1]; rfl
 | day a b=>unfold Ks; rw[Bi,if_neg h3,Bi,if_neg h2]; rfl
 | ovr m=>unfold Ks; rw[Bi,if_neg h4]; rfl
theorem CdAt.obj {κ:A8} {H:Hp} {v:V} {t:Gx} (h:CdAt κ H v t):∃ p dx fs,v = .ref p/\H p=some (.ins (κ.of t) dx fs) /\
  fs.lookup ("holds" : Str)=none/\fs.lookup ("rank" : Str)=none/\fs.lookup ("words" : Str)=none/\fs.lookup ("marks" : Str)=none:=by
 cases t with
 | «at» c=>
  unfold CdAt at h;obtain⟨p,dx,e,h⟩:=h;exact⟨p,dx,_,e,h,R0 c (by ac_nf) (by ac_nf) (by ac_nf) (by ac_nf),R0 c (by ac_nf) (by ac_nf) (by ac_nf) (by ac_nf),R0 c (by ac_nf) (by ac_nf) (by ac_nf) (by ac_nf),R0 c (by ac_nf) (by ac_nf) (by ac_nf) (by ac_nf)⟩
 | no t=>
  unfold CdAt at h;obtain⟨p,dx,w,e,h,_⟩:=h;exact⟨p,dx,_,e,h,Fp (by ac_nf) _,Fp (by ac_nf) _,Fp (by ac_nf) _,Fp (by ac_nf) _⟩
 | al ts=>
  unfold CdAt at h;obtain⟨p,dx,l,vs,e,h,_⟩:=h;exact⟨p,dx,_,e,h,Fp (by ac_nf) _,Fp (by ac_nf) _,Fp (by ac_nf) _,Fp (by ac_nf) _⟩
 | so ts=>
  unfold CdAt at h;obtain⟨p,dx,l,vs,e,h,_⟩:=h;exact⟨p,dx,_,e,h,Fp (by ac_nf) _,Fp (by ac_nf) _,Fp (by ac_nf) _,Fp (by ac_nf) _⟩
def Nw (H H':Hp):Hp:=fun b=>match H b with
 | none=>H' b
 | some _=>none
theorem Nw.of {H H':Hp} {b:Addr} {o:HO} (h:H b=none) (e:H' b=some o):Nw H H' b=some o:=by
 unfold Nw;rw[h];exact e
theorem Nw.at {H H':Hp} {b:Addr} {o:HO} (e:Nw H H' b=some o):H b=none/\H' b=some o:=by
 unfold Nw at e;cases h:H b with
 | none=>rw[h] at e; exact⟨rfl,e⟩
 | some o'=>rw[h] at e; cases e
theorem Nw.grow {H H1 H2:Hp} (s:∀ b o,H b=none->H1 b=some o->H2 b=some o):Same (Nw H H1) (Nw H H2):=fun b o e=>Nw.of (Nw.at e).1 (s b o (Nw.at e).1 (Nw.at e).2)
def MQ (H:Hp) (t:Addr) (x:LS):Prop:=∃ ev,∃ n:Int,H t=some (.tup [.int n,.int x.d,.str ev,.str x.th,.str x.ca,.int x.ct])
mutual
def Mx (φ:Co->Prop):Gx->Prop
 | .at c=>φ c
 | .no t=>Mx φ t
 | .al ts=>2<=ts.length/\ts.length<=8/\okTs φ ts
 | .so ts=>2<=ts.length/\ts.length<=8/\okTs φ ts
def okTs (φ:Co->Prop):List Gx->Prop
 | []=>True
 | t::ts=>Mx φ t/\okTs φ ts
end
theorem W4 {φ:Co->Prop} {ts:List Gx} (h:∀ t∈ts,Mx φ t):okTs φ ts:=by
 induction ts with
 | nil=>unfold okTs; trivial
 | cons t ts ih=>unfold okTs; exact⟨h t zAj,ih fun u hu=>h u (zAg _ hu)⟩
theorem W1 {φ:Co->Prop} {ts:List Gx} (h:okTs φ ts):∀ t∈ts,Mx φ t:=by
 induction ts with
 | nil=>intro t ht; cases ht
 | cons t ts ih=>
  unfold okTs at h;intro u hu;rcases zAo.mp hu with rfl | hu
  ·exact h.1
  ·exact ih h.2 u hu
section
variable {R R':V->Gx->Prop} {vs ws:List V} {ts us:List Gx}
end
theorem IT {c:Prop} {inst:Decidable c} {t u:TS} {D:Nj} {σ:St} {H:Hp} (G:St->Hp->Prop)
  (h1:c->∀ N:St->Hp->Prop,(∀ σ' H',G σ' H'->N σ' H')->t { D with nx:=N } σ H) (h2:¬ c->∀ N:St->Hp->Prop,(∀ σ' H',G σ' H'->N σ' H')->u { D with nx:=N } σ H)
  (R:∀ σ' H',G σ' H'->D.nx σ' H'):@ite Prop c inst (t D σ H) (u D σ H):=by
 by_cases z:c
 ·rw[if_pos z]; exact h1 z _ R
 ·rw[if_neg z]; exact h2 z _ R
section
variable {wc:Co->List Str} {φ:Co->Prop}
end
section
variable {X:Cx} {k:Nat} {C:Addr} {m:Str} {ps:List Str} {sp:Sp} {e o:Expr} {es:List Expr} {apos pos:Pos} {ta:TE} {t:TA} {W:St->XK}
end
section
variable {wc:Co->List Str} {φ:Co->Prop} {af:List Str->Nat->Prop}
end
end L2
namespace L2
open PySem PySem.Spec PyProof PyProof.Rows
section
variable {X:Cx} {pins:List (Addr×Obj)} {σ:St} {H:Hp} {s:Shared} {e:Addr}
end
section
variable {M:Model} {A:Around} {E:Value->Shared->Prop} {env:Env}
variable {nm q:Str} {C N:Addr} {bs bm:List Value} {hdct:Bool} {sn:List Str} {sub:List Value} {ab:Bool} {col:Option Bool} {dd:Option Addr} {k0 k1 k2 k3 k5:Option Value} {newId:String}
end
section
variable {X:Cx} {x f:Str} {C:Addr} {np cpos pos apos:Pos} {e o value:Expr} {es:List Expr} {t:TA} {ta tv:TE} {W:St->XK}
end
section
variable {prog:Program} {w:World} {A:Around} {E:Value->Shared->Prop} {env:Env}
variable {nm q:Str} {C N:Addr} {bs bm:List Value} {hdct:Bool} {sn:List Str} {sub:List Value} {ab:Bool} {col:Option Bool} {dd:Option Addr} {k0 k1 k2 k3 k5:Option Value} {newId:String}
end
section
variable {X:Cx} {x f:Str} {C:Addr} {np cpos pos apos cp:Pos} {j:Nat} {e o value:Expr} {es:List Expr} {t:TA} {ta tv:TE} {W:St->XK}
end
section
variable {X:Cx} {x n:Str} {Ch:Addr} {i:Nat} {body suite:List Stmt} {b₀ : Stmt} {tb:(St->XK)->TS} {ts:TS} {np hpos pos:Pos} {pins:List (Addr×Obj)} {σ:St} {H:Hp} {s:Shared} {e:Addr} {oe:Obj}
end
theorem Kn {X:Cx} {K:zAa} {f:Str} {pos:Pos} {e:Expr} {ta:TE} (he:PE X e ta) (hb:attributeBase e f X.env (eval e X.env)=eval e X.env) (hK:X.K=K:=by rfl):PE X (.Attribute e f pos) (LZ K ta f):=hK▸Cq he hb
end L2
namespace CST
open PySem
section
variable {prog:Program} {w:World} {A:Around} {E:Value->Shared->Prop} {s:Shared}
variable {R:Result->Shared->Prop} {I:Addr} {fp wr:List Addr} {G:Array GenState->Array GenState->Prop} {n:Nat} {P:Nat->Value->Prop} {St:Nat->Shared->Prop}
theorem GSet.keepS {h h':Heap} {a:Addr} {ks:List Str} (g:GSet (strKind prog w) h a ks) (k:∀ o,h.get? a=some o->h'.get? a=some o):GSet (strKind prog w) h' a ks:=by
 obtain⟨o,es,ep,t,ho,r⟩:=g;exact⟨o,es,ep,t,k o ho,r⟩
theorem Xx (W:WalksS prog w A.in1 I fp wr G n P St) (S:Addr) (nS:S∉fp) (val:Nat->Str) (hv:∀ i v,P i v->∃ t,v = .str (val i) t) (hb:n+1<scanBound) :
  ∀ (k i:Nat) (s:Shared) (ks:List Str),n-i=k->i<=n->St i s->GSet (strKind prog w) s.heap S ks->(∀ y,y∈ks↔∃ j,j<i/\val j=y)->ks.length<=i ->
   (∀ s' ks',Moved (S::wr) G s s'->GSet (strKind prog w) s'.heap S ks'->(∀ y,y∈ks'↔∃ j,j<n/\val j=y)->ks'.length<=n->R (.ok (.ret .none)) s') ->
   codeAny (model prog w) A (.builtin "set.update.loop" ⟨[.ref S,.ref I],[]⟩) R s:=by
 have nw:S∉wr:=fun z=>nS (W.sub _ z);have sub:∀ b∈wr,b∈S::wr:=fun b hb=>zAg _ hb;intro k
 induction k with
 | zero=>
  intro i s ks hk hi st g mem len fin;have e:i=n:=by lia
  subst e;refine codeAny_builtin PyProof.Rows.F.entry_set_update_loop ?_;rw[Around.under_plainId PyProof.Rows.F.plain_set_update_loop _];show wpAny _ A.in1 (pyNext (.ref I) >>= _) _ _ s;refine zCy (W.done s _ _ st fun s' hm=>?_);show wpAny _ A.in1 (ret Value.none) _ _ s';exact zCz (fin s' ks (hm.mono sub) (GSet.keepS g fun o e=>hm.heap S o nw e) mem len)
 | succ k ih=>
  intro i s ks hk hi st g mem len fin;refine codeAny_builtin PyProof.Rows.F.entry_set_update_loop ?_;rw[Around.under_plainId PyProof.Rows.F.plain_set_update_loop _];show wpAny _ A.in1 (pyNext (.ref I) >>= _) _ _ s;refine zCy (W.item i s _ _ (by lia) st fun v s' hP st' hm=>?_);obtain⟨tk,rfl⟩:=hv i v hP;have g':=GSet.keepS g fun o e=>hm.heap S o nw e;show wpAny _ A.in1 (holding [Value.str (val i) tk] (setAdd S (.str (val i) tk)) >>= _) _ _ s';refine zCy (wpAny_holding ?_);unfold setAdd;refine wpAny_holding (zCy ((strKind prog w).pyHash (k:=val i) (strKind_is _ _ _ _) ?_));refine II (knd:=strKind prog w) (s:={ s' with toks:=s'.toks+1 }) (strKind_is _ _ _ _) rfl g' (by lia) fun b h' ks' sb g2 pm=>?_;have len':ks'.length<=i+1:=by
   rw[pm.length_eq]
   split
   ·lia
   ·rw[zAm,zBv]; lia
  have mem':∀ y,y∈ks'↔∃ j,j<i+1/\val j=y:=fun y=>by
   rw[pm.mem_iff];constructor
   ·intro hy
    split at hy
    ·obtain⟨j,h1,h2⟩:=(mem y).mp hy
     exact⟨j,by lia,h2⟩
    ·rcases zAA.mp hy with z | z
     ·obtain⟨j,h1,h2⟩:=(mem y).mp z
      exact⟨j,by lia,h2⟩
     ·exact⟨i,by lia,(zAk.mp z).symm⟩
   ·rintro ⟨j,h1,h2⟩
    have old:∀ {z},z∈ks->z∈(if val i∈ks then ks else ks++[val i]):=fun {z} hz=>by
     split
     ·exact hz
     ·exact zBX _ hz
    by_cases c:j<i
    ·exact old ((mem y).mpr ⟨j,c,h2⟩)
    ·have e:j=i:=by lia
     subst e
     split
     ·rw[<- h2]; assumption
     ·rw[<- h2]; exact zAM _ (zAk.mpr rfl)
  refine zCz ⟨plainId_quiet PyProof.Rows.F.plain_set_update_loop _,ih (i+1) _ ks' (by lia) (by lia) (W.frame _ s' _ _ st' (zBl _) fun b hb o e=>?_) g2 mem' len' fun s2 ks2 hm2 g3 m3 l3=>?_⟩
  ·rw[sb.2 b (fun z:b=S=>nS (by rw[<- z]; exact hb))]; exact e
  ·refine fin s2 ks2 (Moved.trans W.gtrans ((hm.mono sub).then_heap (zBl _) fun b o hb e=>?_) hm2) g3 m3 l3
   rw[sb.2 b (fun z:b=S=>hb (by rw[z]; exact zAj))]; exact e
end
section
variable {prog:Program} {w:World} {A:Around} {E:Value->Shared->Prop} {s:Shared}
theorem Z0 {h:Heap} {a:Addr} (ho:h.get? a=some (Ih w)):GSet (strKind prog w) h a []:=by
 refine⟨_,#[],0,_,ho,⟨rfl,rfl,rfl⟩,rfl,.nil,zCn,by decide,rfl,?_⟩;exact Te (w.params.followText "set-order")
theorem set_of_strs {l:Addr} {items:Array Value} {ns:List Str} {Q:Value->Shared->Prop} (hh:A.handled=none) (hl:s.heap.IsList l items) (hi:∀ (i:Nat) (v:Value),items[i]?=some v->∃ t,v = .str (ns.getD i Str.empty) t) (ln:items.size=ns.length) (hb:items.size+1<scanBound)
  (h:∀ (h':Heap) (tk:Nat) (ks:List Str),GSet (strKind prog w) h' s.heap.objs.size ks->(∀ y,y∈ks↔y∈ns)->ks.length<=items.size->(∀ b o,s.heap.get? b=some o->h'.get? b=some o)->Q (.ref s.heap.objs.size) { s with heap:=h',toks:=tk }) :
  wpAny (model prog w) A (call (.type "set") [.ref l]) Q E s:=by
 obtain⟨c,tl,hmro⟩:=F.called_set.mro;have hmade:=F.called_set.made;have hsub:=F.called_set.sub;have h1:=F.called_set.notType;have h2:=F.called_set.canCreate;have hct:=F.typeCall_set_1 (.ref l);refine wpAny_call (codeAny_of_tree (show wpAny _ _ (callAny (.type "set") _) _ _ _ from ?_));refine zCz ⟨Code.quiet_builtin _ (by ac_nf),codeAny_builtin F.entry_type_call ?_⟩;rw[Around.under_plain (weight_type_call_type "set" [.ref l] []) rfl]
 repeat (any_goals (first | assumption | wp_step))
 refine codeAny_mono (V4 (x:=.ref l) (E:=E) (Q:=fun v s₁ => v = .ref s.heap.objs.size/\s₁ = { s with heap:=s.heap.push (Ih w) }) ⟨rfl,rfl⟩) fun r s₁ hr=>?_;cases r with
 | error e=>exact hr
 | ok fl=>
  cases fl with
  | ret obj=>
   obtain⟨rfl,rfl⟩:=hr;have at0:(s.heap.push (Ih w)).get? s.heap.objs.size=some (Ih w):=zAt _ rfl;have hT:Shared.TypeIs { s with heap:=s.heap.push (Ih w) } (.ref s.heap.objs.size) "set" := ⟨_,at0,rfl⟩;have hli:=F.called_set.init.lookup;have hbi:=F.called_set.init.bind (.ref s.heap.objs.size)
   repeat (any_goals (first | assumption | wp_step))
   refine codeAny_mono (codeAny_call_builtin (R:=wants (fun r s₂ => r = .none/\∃ h' tk ks,s₂ = { s with heap:=h',toks:=tk }/\GSet (strKind prog w) h' s.heap.objs.size ks/\(∀ y,y∈ks↔y∈ns)/\ks.length<=items.size/\(∀ b o,s.heap.get? b=some o->h'.get? b=some o)) E)
    F.called_set.init.plain F.entry_set_init (check_set_init_1 hT ?_)) fun r₂ s₂ hr₂ => ?_
   ·obtain⟨⟨oc,od,odt,osl⟩,hol,hcl,nl,hdl⟩:=id hl
    simp only at hcl hdl;subst hcl hdl;have old:(s.heap.push (Ih w)).get? l=some { cls:=.type "list",dict:=od,data:=.seq items nl,slots:=osl }:=zAe _ hol;have il:(s.heap.push (Ih w)).IsList l items:=⟨_,old,rfl,nl,rfl⟩;have lt:l<s.heap.objs.size:=zAq hol;have u1:=F.sub_list_set;have u2:=F.sub_list_frozenset;have u3:(Value.type "list" == Value.type "dict")=false:=by decide
    unfold Builtin.«set.__init__» noKeywords Builtin.Frozenset.updateFrom;generalize hPI:pyIter=PI
    wp_walk
    subst hPI;refine wpAny_pyIter_list il (zCy (wpAny_runValue ?_));have sz:(s.heap.push (Ih w)).objs.size=s.heap.objs.size+1:=zBp ..;have ne:l≠(s.heap.push (Ih w)).objs.size:=by rw[sz]; exact zAu (zBz lt)
    have h3:A.in1.in1.in1.handled=none:=by simp [hh]
    have nf:s.heap.objs.size∉[(s.heap.push (Ih w)).objs.size,l]:=by
     rw[sz];intro z;rcases zAo.mp z with z | z
     ·exact absurd z (zAu (zBB _))
     ·exact absurd (zAk.mp z) (zBk lt)
    have hv:∀ (i:Nat) (v:Value),items[i]?=some v->∃ t,v = .str ((fun i=>ns.getD i Str.empty) i) t:=hi;refine Xx ((Walks.list h3 _ l ne items).toS) s.heap.objs.size nf (fun i=>ns.getD i Str.empty) hv hb (items.size-0) 0 _ [] (by lia) (zAB _) ⟨⟨_,zAt _ rfl,rfl,rfl⟩,il.push _⟩ (Z0 (zAe _ at0)) (fun y=>⟨fun z=>(nomatch z),fun ⟨j,z,_⟩=>absurd z (zBm _)⟩) (zAB _) fun s' ks hm g m ln'=>?_;obtain⟨h',g',d',tk',os'⟩:=s';have eg:g'=s.gens:=hm.gens;have ed:d'=s.drawn:=hm.drawn;have eo:os'=s.os:=hm.os;subst eg ed eo;refine zCz (zCz ⟨rfl,h',tk',ks,rfl,g,fun y=>?_,ln',fun b o e=>?_⟩)
    ·rw[m y]
     constructor
     ·rintro ⟨j,z1,z2⟩
      rw[<- z2];show ns.getD j Str.empty∈ns;rw[zAs,zAd (by lia)];exact zAZ _
     ·intro z
      obtain⟨j,hj,e⟩:=zAU z;refine⟨j,by lia,?_⟩;show ns.getD j Str.empty=y;rw[zAs,zAd hj];exact e
    ·refine hm.heap b o (fun z=>?_) (zAe _ (zAe _ e))
     have lb:=zAq e;rcases zAo.mp z with z | z
     ·exact absurd z (zAu lb)
     ·exact absurd (zAk.mp z) (by rw[sz]; exact zAu (zBz lb))
   ·cases r₂ with
    | error e=>exact hr₂
    | ok fl₂ =>
     cases fl₂ with
     | ret r=>
      obtain⟨rfl,h',tk,ks,rfl,g,m,ln,k⟩:=hr₂
      repeat (any_goals (first | assumption | wp_step))
      exact h _ _ ks g m ln k
     | _=>exact hr₂.elim
  | _=>exact hr.elim
end
end CST
namespace L2
open PySem PySem.Spec PyProof PyProof.Rows
section
variable {α:Type} [DecidableEq α]
theorem Mr:∀ {ks ss:List α},ks.Nodup->(∀ y∈ks,y∈ss)->ks.length<=ss.length
 | [],_,_,_=>zAB _
 | k::ks,ss,nd,h=>by
  rw[zAT] at nd;have hk:=h k zAj;have ih:=Mr (ks:=ks) (ss:=ss.erase k) nd.2 fun y hy=>(zCb (fun z=>nd.1 (by rw[<- z]; exact hy))).mpr (h y (zAg _ hy));rw[zBJ hk] at ih;have:0<ss.length:=zBQ hk;rw[zAf]
  lia
theorem Zf:∀ {ss:List α},¬ ss.Nodup->∃ x,x∈ss/\x∈ss.erase x
 | [],h=>absurd zCn h
 | y::t,h=>by
  by_cases c:y∈t
  ·exact⟨y,zAj,by rw[List.erase_cons_head]; exact c⟩
  ·obtain⟨x,h1,h2⟩:=Zf (ss:=t) (fun z=>h (zAT.mpr ⟨c,z⟩))
   have ne:¬ (y==x)=true:=fun z=>c (by rw[beq_iff_eq.mp z]; exact h1);exact⟨x,zAg _ h1,by rw[List.erase_cons_tail ne]; exact zAg _ h2⟩
theorem EE {ks ss:List α} (nd:ks.Nodup) (m:∀ y,y∈ks↔y∈ss):(ss.Nodup->ks.length=ss.length)/\(¬ ss.Nodup->ks.length<ss.length):=by
 refine⟨fun h=>Nat.le_antisymm (Mr nd fun y hy=>(m y).mp hy) (Mr h fun y hy=>(m y).mpr hy),fun h=>?_⟩;obtain⟨x,h1,h2⟩:=Zf h;have:=Mr (ss:=ss.erase x) nd fun y hy=>by
  by_cases c:y=x
  ·rw[c]; exact h2
  ·exact (zCb c).mpr ((m y).mp hy)
 rw[zBJ h1] at this;have:0<ss.length:=zBQ h1
 lia
end
theorem Q7:∀ {ss:List Str} {us:List Value},Vals (ss.map V.str) us->∀ (i:Nat) (v:Value),us[i]?=some v->∃ t,v = .str (ss.getD i Str.empty) t
 | [],_,.nil,i,v,e=>by simp at e
 | _::_,_::_,.cons r _,0,v,e=>by
  simp at e;subst e;obtain⟨t,rfl⟩:=r;exact⟨t,rfl⟩
 | _::ss,_::us,.cons _ q,i+1,v,e=>by
  obtain⟨t,rfl⟩:=Q7 q i v (by simpa using e);exact⟨t,by simp⟩
def HY (K:zAa) (te:TE):TE:=fun σ H Q=>te σ H fun x H1=>∃ a ss,x = .ref a/\SqL K H1 a (List.map V.str ss)/\ss.length<60/\∀ n:Nat,(ss.Nodup->n=ss.length)->(¬ ss.Nodup->n<ss.length)->Q (.int (n:Int)) H1
section
variable {X:Cx}
theorem AA {e:Expr} {te:TE} {p1 p2 pos1 pos2:Pos} (he:PE X e te) (hc:X.calm=true) (hg1:Gl X "len") (hm1:X.mg "len" = none) (hg2:Gl X "set") (hm2:X.mg "set" = none)
  (hv1:zCB "len" = some (.builtin "len"):=by rfl) (hv2:zCB "set" = some (.type "set"):=by rfl)
  (hs1:starEach [.Call (.Name "set" p2) [e] [] pos2] X.env=[(false,eval (.Call (.Name "set" p2) [e] [] pos2) X.env)]:=by rfl) (hs2:starEach [e] X.env=[(false,eval e X.env)]:=by rfl) :
  PE X (.Call (.Name "len" p1) [.Call (.Name "set" p2) [e] [] pos2] [] pos1) (HY X.K te):=by
 intro pins s σ H Q I h;refine wpAny_Call_Name_kw (Hu I hg1 hm1 hv1 ?_ (by decide) (by decide));refine PyProof.Rows.callWith_builtin1 ?_ hs1 rfl;rw[hs1];show wpAny _ _ (spliced ((false,eval (.Call (.Name "set" p2) [e] [] pos2) X.env)::backTo pos1 [])) _ _ s;refine Calls.spliced_cons ?_;refine wpAny_Call_Name_kw (Hu I hg2 hm2 hv2 ?_ (by decide) (by decide));refine PyProof.Rows.callWith_type1 ?_ hs2 rfl;rw[hs2];show wpAny _ _ (spliced ((false,eval e X.env)::backTo pos2 [])) _ _ s;refine Calls.spliced_cons (Cs (he pins s σ H _ I h) fun u s1 ⟨x,H1,I1,r1,a,ss,ex,hq,l60,q⟩=>?_);subst ex;cases r1;refine Calls.spliced_nil ?_;obtain⟨its,rv,pl,hz⟩:=I1.list hq;have hl:=rv.length;rw[zAb] at hl;have hh:X.A.handled=none:=I.ok.hd hc;have hv:∀ (i:Nat) (v:Value),its.toArray[i]?=some v->∃ t,v = .str (ss.getD i Str.empty) t:=fun i v e=>by
  rw[zBV] at e;exact Q7 rv i v e
 refine CST.set_of_strs (items:=its.toArray) (ns:=ss) hh pl.isList hv (by rw[zAh]; exact hl.symm) (by rw[zAh]; unfold scanBound; lia) fun h2 tk ks g mem len k2=>?_;refine Calls.spliced_nil ?_;rw[zAh] at len;obtain⟨o,es,ep,t,ho,hex,hd,hp,nd,hsz,hf,_⟩:=g;obtain⟨z1,z2⟩:=EE nd mem;have le:es.size=ks.length:=by rw[<- zAC]; exact hp.length
 refine call_len_set (s:={ s1 with heap:=h2,toks:=tk }) ho hex hd hf (by lia) ?_;exact⟨.int (ks.length:Int),H1,I1.kept (h':=h2) k2,⟨_,by rw[le]⟩,q ks.length z1 z2⟩
end
end L2
namespace L2
open PySem PySem.Spec PyProof.Rows PySem.W
section
variable {prog:Program} {w:World} {A:Around} {E:Value->Shared->Prop} {s:Shared}
def T0:Value->Prop
 | .int _ _=>True
 | .str _ _=>True
 | _=>False
theorem A1 {Q:Bool->Shared->Prop}:∀ {xs:List Value} (i:Nat),(∀ v∈xs,T0 v)->Q false s->KatLex prog w A true false Q (xs.zip xs) i s
 | [],i,_,h=>kat_nil h
 | v::xs,i,p,h=>by
  have ih:=A1 (xs:=xs) (i+1) (fun u hu=>p u (zAg _ hu)) h;have pv:=p v zAj;rw[List.zip_cons_cons];cases v with
  | int n t=>
   refine kat_cons (wpAny_eqBool_int ?_);rw[beq_self_eq_true];exact kat_yes ih
  | str n t=>
   refine kat_cons (wpAny_eqBool_str ?_);rw[decide_eq_true rfl];exact kat_yes ih
  | _=>exact pv.elim
def TupW (h:Heap):List Value->List Int->Prop
 | [],[]=>True
 | v::vs,r::rs=>(∃ (t:Addr) (u:Tok) (more:List Value),v = .ref t/\IsTup h t (Value.int r u::more).toArray/\∀ z∈more,T0 z)/\TupW h vs rs
 | _,_=>False
theorem TupW.keep {h h':Heap} (kp:∀ b o,h.get? b=some o->h'.get? b=some o):∀ {vs:List Value} {rs:List Int},TupW h vs rs->TupW h' vs rs
 | [],[],_=>trivial
 | [],_::_,z=>z.elim
 | _::_,[],z=>z.elim
 | v::vs,r::rs,⟨⟨t,u,m,e,⟨o,ho,hc⟩,z⟩,q⟩=>⟨⟨t,u,m,e,⟨o,kp _ _ ho,hc⟩,z⟩,q.keep kp⟩
theorem TupW.at {h:Heap}:∀ {vs:List Value} {rs:List Int} {i:Nat},TupW h vs rs->i<vs.length->∃ (t:Addr) (u:Tok) (more:List Value),vs.getD i Value.none = .ref t/\IsTup h t (Value.int (rs.getD i 0) u::more).toArray/\∀ z∈more,T0 z
 | [],[],_,_,z=>by simp at z
 | [],_::_,_,z,_=>z.elim
 | _::_,[],_,z,_=>z.elim
 | v::vs,r::rs,0,⟨⟨t,u,m,e,z⟩,q⟩,_=>⟨t,u,m,e,z⟩
 | v::vs,r::rs,i+1,⟨_,q⟩,l=>q.at (i:=i) (by simpa using l)
theorem TupW.len {h:Heap}:∀ {vs:List Value} {rs:List Int},TupW h vs rs->vs.length=rs.length
 | [],[],_=>rfl
 | [],_::_,z=>z.elim
 | _::_,[],z=>z.elim
 | v::vs,r::rs,z=>by rw[zAf,zAf,z.2.len]
theorem TupW.firsts {h:Heap}:∀ {vs:List Value} {rs:List Int},TupW h vs rs->∃ fs:List Value,KatTups h vs fs/\fs.length=vs.length/\∀ v∈fs,∃ (n:Int) (t:Tok),v = .int n t
 | [],[],_=>⟨[],trivial,rfl,fun _ z=>nomatch z⟩
 | [],_::_,z=>z.elim
 | _::_,[],z=>z.elim
 | v::vs,r::rs,⟨⟨t,u,m,e,⟨o,ho,hc,n,hd⟩,pm⟩,q⟩=>by
  obtain⟨fs,h1,h2,h3⟩:=q.firsts;refine⟨.int r u::fs,⟨⟨t,o,_,n,e,ho,hc,hd,by simp⟩,h1⟩,by rw[zAf,zAf,h2],fun y hy=>?_⟩;rcases zAo.mp hy with z | z
  ·exact⟨r,u,z⟩
  ·exact h3 y z
theorem GD {rs:List Int} (nd:rs.Nodup) {i j:Nat} (hi:i<rs.length) (hj:j<rs.length) (e:rs.getD i 0=rs.getD j 0):i=j:=by
 rw[zAs,zAs,zAd hi,zAd hj] at e;have e':rs[i]=rs[j]:=e;rcases zBH i j with c | c | c
 ·exact absurd e' ((zBb.mp nd) i j hi hj c)
 ·exact c
 ·exact absurd e'.symm ((zBb.mp nd) j i hj hi c)
theorem B8 {vs:List Value} {rs:List Int} (T:TupW s.heap vs rs) (nd:rs.Nodup) (two:2<=vs.length):GC prog w A vs LexO (fun i=>[rs.getD i 0]) s:=by
 obtain⟨fs,h1,h2,h3⟩:=T.firsts;have lr:=T.len;refine⟨tuples' (Value.type "int" != Value.type "tuple"),fun Q E q=>kat_kind h1 (by lia) (fun v hv=>?_) rfl q,fun i j hi hj C hC=>?_⟩
 ·obtain⟨n,t,rfl⟩:=h3 v hv
  exact Va n t
 ·have nb:(Value.type "int" != Value.type "tuple")=true:=by ac_nf
  rw[nb];obtain⟨t,u,m,e,⟨o,ho,hc,n,hd⟩,pm⟩:=T.at hi;by_cases c:i=j
  ·subst c
   rw[e];refine kat_lt ho hd ho hd ?_;rw[decide_eq_false (zBo _)];rw[show LexO.blt [rs.getD i 0] [rs.getD i 0]=false from Ld _] at hC;refine A1 0 (fun z hz=>?_) hC;rcases zAo.mp hz with y | y
   ·rw[y]; trivial
   ·exact pm z y
  ·obtain⟨t',u',m',e',⟨o',ho',hc',n',hd'⟩,pm'⟩:=T.at hj
   have ne:¬ rs.getD i 0=rs.getD j 0:=fun z=>c (GD nd (by lia) (by lia) z);rw[e,e'];refine kat_lt ho hd ho' hd' ?_;show KatLex prog w A true _ C ((Value.int (rs.getD i 0) u::m).zip (Value.int (rs.getD j 0) u'::m')) 0 s;rw[List.zip_cons_cons];refine kat_cons (wpAny_eqBool_int ?_);rw[show (rs.getD i 0==rs.getD j 0)=false by simpa using ne];refine kat_no (oneLt_int ?_);have eb:LexO.blt [rs.getD i 0] [rs.getD j 0]=decide (rs.getD i 0<rs.getD j 0):=by
    show HT.lexLt [rs.getD i 0] [rs.getD j 0]=_;rw[HT.lexLt_cons,if_neg ne]
   rw[eb] at hC;exact hC
end
def CK:V->Bool
 | .int _=>true
 | .str _=>true
 | _=>false
def TupF (K:zAa) (H:Hp):List V->List Int->Prop
 | [],[]=>True
 | y::ys,r::rs=>(∃ t more,y = .ref t/\SqT K H t (.int r::more)/\more.all CK=true)/\TupF K H ys rs
 | _,_=>False
theorem Rc:∀ {ms:List V} {us:List Value},ms.all CK=true->Vals ms us->∀ z∈us,T0 z
 | _,_,_,.nil,_,h=>nomatch h
 | x::ms,u::us,a,.cons r q,z,h=>by
  rw[zCu,zAp] at a;rcases zAo.mp h with e | e
  ·subst e
   cases x with
   | int n=>obtain⟨t,rfl⟩:=r; trivial
   | str n=>obtain⟨t,rfl⟩:=r; trivial
   | _=>exact absurd a.1 zAl
  ·exact Rc a.2 q z e
section
variable {X:Cx}
theorem TupF.vals {pins:List (Addr×Obj)} {σ:St} {H:Hp} {s:Shared} (I:Inv X pins σ H s):∀ {ys:List V} {rs:List Int} {us:List Value},TupF X.K H ys rs->Vals ys us->TupW s.heap us rs
 | [],[],_,_,.nil=>trivial
 | [],_::_,_,z,_=>z.elim
 | _::_,[],_,z,_=>z.elim
 | y::ys,r::rs,_,⟨⟨t,m,e,h,pm⟩,q⟩,.cons rv rr=>by
  subst e;cases rv;obtain⟨its,rv',p,_⟩:=I.tuple h;cases rv' with
  | cons r1 r2=>
   obtain⟨u,rfl⟩:=r1;exact⟨⟨t,u,_,rfl,p,Rc pm r2⟩,q.vals I rr⟩
def KJ (K:zAa):List V->Hp->VK->Prop:=fun xs H Q=>∃ a ys rs,xs=[.ref a]/\SqL K H a ys/\ys.length<64/\TupF K H ys rs/\rs.Nodup /\
 ∀ (l:Addr) (p:Array Nat),H l=none->CRS.Pm ys.length p->CRS.Up (O:=LexO) (fun i=>[rs.getD i 0]) p ys.length->Q (.ref l) (upd H l (.lst (p.toList.map fun i=>ys.getD i .non)))
theorem Xd:Gf X (.builtin "sorted") (KJ X.K):=by
 intro pins s σ H xs us Q I r h;obtain⟨a,ys,rs,rfl,hq,l64,T,nd,q⟩:=h;obtain⟨u,rfl,rx⟩:=Ji r;cases rx;obtain⟨its,rv,pl,hz⟩:=I.list hq;have hl:=rv.length;have TV:=T.vals I rv;refine Vc (O:=LexO) (key:=fun i=>[rs.getD i 0]) pl.isList (by lia) (fun A' h' kp two=>B8 (s:={ s with heap:=h' }) (TV.keep kp) nd two) fun p hp hu=>?_;obtain⟨e,he⟩:=sortedAll_at s.heap its (Oe its p).toArray;have lp:(p.toList.map fun i=>ys.getD i .non).length<=sizeLine:=by
  rw[zAb,zAC,hp.size]
  lia
 rw[<- hl] at hp hu;exact⟨.ref (s.heap.objs.size+1),_,I.laid (t':=s.toks) (fun b o q=>sortedAll_old q) (zBl _) (show ObjOk X.prog X.w _ _ _ (.lst _) from ⟨lp,Oe its p,e,Tg rv _,he⟩),rfl,q _ p (I.hok.fresh (zBl _)) hp hu⟩
end
theorem X8 {α:Type} {S:List α} {d:α} {f:α->Int} {p:Array Nat} (hp:CRS.Pm S.length p) (up:CRS.Up (O:=LexO) (fun i=>[(S.map f).getD i 0]) p S.length) (nd:(S.map f).Nodup) :
  (p.toList.map fun i=>S.getD i d).Perm S/\(p.toList.map fun i=>S.getD i d).Pairwise (fun x y=>f x<f y):=by
 have pl:p.toList.Perm (zAI S.length):=by
  have:=zCe.mp hp
  simpa using this
 have e:(zAI S.length).map (fun i=>S.getD i d)=S:=by
  apply List.ext_getElem
  ·simp
  ·intro i h1 h2
   simp [zAs,zAd h2]
 have pm:(p.toList.map fun i=>S.getD i d).Perm S:=by
  have:=pl.map (fun i=>S.getD i d);rw[e] at this;exact this
 refine⟨pm,?_⟩;have nd':((p.toList.map fun i=>S.getD i d).map f).Nodup:=(pm.map f).nodup_iff.mpr nd;have sz:=hp.size;rw[zBb];intro i j hi hj hij;have hi':i<p.size:=by simpa using hi
 have hj':j<p.size:=by simpa using hj
 have u:=up i j (by lia) (by lia);have lt:∀ k (hk:k<p.size),p.getD k 0=p[k]/\p[k]<S.length:=fun k hk=>by
  refine⟨by simp [zCa,hk],?_⟩;have m:p[k]∈p.toList:=by simp
  have:=pl.mem_iff.mp m
  simpa using this
 obtain⟨a1,a2⟩:=lt i hi';obtain⟨b1,b2⟩:=lt j hj';have fa:∀ k (hk:k<S.length),(S.map f).getD k 0=f (S.getD k d):=fun k hk=>by
  simp [zAs,zAw,zAd hk]
 have ne:f (S.getD p[i] d)≠f (S.getD p[j] d):=by
  have:=(zBb.mp (zBt.mp nd')) i j (by simpa using hi') (by simpa using hj') hij
  simpa using this
 have le:¬ LexO.blt [(S.map f).getD (p.getD j 0) 0] [(S.map f).getD (p.getD i 0) 0]=true:=by
  have u':LexO.blt [(S.map f).getD (p.getD j 0) 0] [(S.map f).getD (p.getD i 0) 0]=false:=u;rw[u'];exact zAl
 rw[a1,b1,fa _ a2,fa _ b2] at le;have le':¬ HT.lexLt [f (S.getD p[j] d)] [f (S.getD p[i] d)]=true:=le;rw[HT.lexLt_cons,if_neg ne.symm] at le';have:¬ f (S.getD p[j] d)<f (S.getD p[i] d):=fun z=>le' (decide_eq_true z);simp only [List.getElem_map,Array.getElem_toList]
 lia
end L2
namespace L2
open PySem PySem.Spec PyProof.Rows
def IH (K:zAa):R2:=fun x y H Q=>(y = .non/\(∃ a xs,x = .ref a/\SqT K H a xs)/\Q (.bl false) H)\/MG K false x y H Q
theorem FF {X:Cx} (hu:X.A.units+64<cLine):Ko X (compareOp .Eq) (IH X.K):=by
 intro pins s σ H x y v u Q I rx ry h;rcases h with ⟨rfl,⟨a,xs,rfl,ht⟩,q⟩ | h
 ·cases rx
  cases ry
  obtain⟨its,_,p,_⟩:=I.tuple ht;exact SeqAt.RcAt.tuple_none p (by lia) X.prog X.w _ _ ⟨.bl false,H,I,rfl,q⟩
 ·exact PK false hu pins s σ H x y v u Q I rx ry h
theorem HH {X:Cx} {K:zAa} (hu:X.A.units+64<cLine) (hK:X.K=K:=by rfl):Ko X (compareOp .Eq) (IH K):=hK▸FF hu
def TsAt {α:Type} (f:α->List V) (H:Hp):List V->List α->Prop
 | [],[]=>True
 | x::xs,z::zs=>(∃ t,x = .ref t/\H t=some (.tup (f z)))/\TsAt f H xs zs
 | _,_=>False
section
variable {α:Type} {f:α->List V}
theorem TsAt.len {H:Hp}:∀ {xs:List V} {zs:List α},TsAt f H xs zs->xs.length=zs.length
 | [],[],_=>rfl
 | [],_::_,h=>h.elim
 | _::_,[],h=>h.elim
 | x::xs,p::ps,h=>by rw[zAf,zAf,TsAt.len h.2]
theorem TsAt.mono {H H':Hp} (s:∀ t ws,H t=some (.tup ws)->H' t=some (.tup ws)):∀ {xs:List V} {zs:List α},TsAt f H xs zs->TsAt f H' xs zs
 | [],[],_=>trivial
 | [],_::_,h=>h.elim
 | _::_,[],h=>h.elim
 | x::xs,p::ps,⟨⟨t,e,h⟩,r⟩=>⟨⟨t,e,s _ _ h⟩,TsAt.mono s r⟩
theorem TsAt.snoc {H:Hp}:∀ {xs:List V} {zs:List α} {t:Addr} {z:α},TsAt f H xs zs->H t=some (.tup (f z))->TsAt f H (xs++[.ref t]) (zs++[z])
 | [],[],t,_,_,h=>⟨⟨t,rfl,h⟩,trivial⟩
 | [],_::_,_,_,r,_=>r.elim
 | _::_,[],_,_,r,_=>r.elim
 | x::xs,p::ps,_,_,⟨z,r⟩,h=>⟨z,TsAt.snoc r h⟩
theorem TsAt.get {H:Hp}:∀ {xs:List V} {zs:List α} {i:Nat} {x:V},TsAt f H xs zs->xs[i]?=some x->∃ t z,zs[i]?=some z/\x = .ref t/\H t=some (.tup (f z))
 | [],[],_,_,_,e=>by simp at e
 | [],_::_,_,_,h,_=>h.elim
 | _::_,[],_,_,h,_=>h.elim
 | x::xs,p::ps,0,y,⟨⟨t,e,h⟩,r⟩,q=>by
  simp at q;subst q;exact⟨t,p,rfl,e,h⟩
 | x::xs,p::ps,i+1,y,⟨_,r⟩,q=>by
  obtain⟨t,p',h1,h2⟩:=TsAt.get (i:=i) r (by simpa using q);exact⟨t,p',by simpa using h1,h2⟩
theorem TsAt.at {H:Hp} {xs:List V} {zs:List α} {i:Nat} {z:α} (h:TsAt f H xs zs) (e:zs[i]?=some z):∃ t,xs[i]?=some (.ref t)/\H t=some (.tup (f z)):=by
 have hi:i<xs.length:=by rw[h.len]; exact (zAi.mp e).1
 obtain⟨t,z',e',ex,ht⟩:=h.get (zAd hi);rw[e] at e';cases e';exact⟨t,by rw[zAd hi,ex],ht⟩
end
def BS (h:Heap) (d:Addr) (ob:Obj) (es:Array DictEntry) (ep:Nat):Prop:=h.get? d=some ob/\ob.ExactDict/\ob.data = .dict es ep
section
variable {prog:Program} {w:World} {A:Around} {E:Value->Shared->Prop} {s:Shared} {d v it:Addr} {ob:Obj} {es:Array DictEntry} {ep:Nat}
theorem Yv (d:Addr) (nsm:(d==sysModules)=false):MeetsIn prog w (Builtin.«dict.items» ⟨[.ref d],[]⟩) (fun _ R s=>s.TypeIs (.ref d) "dict" /\
  R (.ok (.ret (.ref s.heap.objs.size))) { s with heap:=s.heap.push { cls:=.type "dict_items",data:=.fields #[.ref d] } }):=
 .of_wp fun A R s ⟨ty,fin⟩=>by
  unfold Builtin.«dict.items» Builtin.Dict.noArgs;refine zCy <| zCy <| wpAny_notOrdered_dict ty ?_;show wpAny _ _ (pure d) _ _ _;refine zCz (show wpAny _ _ (Builtin.Dict.showsAll d >>= _) _ _ s from ?_);unfold Builtin.Dict.showsAll;rw[if_neg (fun z=>by rw[nsm] at z; cases z)];exact zCy <| zCz <| zCy <| wpAny_newObj_type <| zCz ⟨_,rfl,fin⟩
theorem C1 {Q:Value->Shared->Prop} (view:s.heap.IsItemsView v d) (r:BS s.heap d ob es ep)
  (fin:Q (.ref s.heap.objs.size) { s with heap:=s.heap.push { cls:=.type "dict_itemiterator",data:=.fields #[.none,.bool false,.ref d,.int 0 0,.int es.size 0,.int ep 0,.none,.none] } }) :
  wpAny (model prog w) A (pyIter (.ref v)) Q E s:=by
 obtain⟨o1,g1,g2,g3⟩:=id view;obtain⟨r1,r2,r3⟩:=r;refine wpAny_pyIter_slot view.typeIs PySem.F.slot_dict_items_iter <| wpAny_call_entry PySem.F.slot_dict_items_iter view.typeIs PySem.F.entry_dict_items_iter ?_ (PySem.F.args_dict_items_iter_1 _);unfold Builtin.«dict_items.__iter__» Builtin.Dict_items.dictOf Builtin.Dict_items.newIterator;refine zCy <| zCz <| zCy <| zCy <| wpAny_field g1 g3 (x:=.ref d) rfl <| zCz <| zCy <| zCy <| wpAny_dictEntries r1 r3 <| zCy <| wpAny_dictEpoch r1 r3 ?_;have owns:Builtin.Dict_items.ownsTuple "dict_itemiterator" = true:=by decide
 simp only [owns,if_true];refine wpAny_newObj_type (zCz ⟨_,rfl, "dict_itemiterator",_,⟨_,zAt _ rfl,rfl⟩,PySem.F.slot_dict_itemiterator_next.lookup,?_⟩) (by
  simp only [sizeOk,Builtin.Dict_items.ownedTupleFields,zAh,zAm,zAf,zBL,zCA]
  lia)
 simpa [rawInt,Builtin.Dict_items.ownedTupleFields] using fin
theorem Zr {i:Nat} {k x:Value} {Q:Option Value->Shared->Prop} {en:DictEntry} (st:IsItemIter s.heap it d i es.size ep k x) (r:BS s.heap d ob es ep) (at':es[i]?=some en)
  (fin:∀ h',IsItemIterOut h' it d (i+1) es.size ep en.key en.val s.heap.objs.size->h'.get? s.heap.objs.size=some { cls:=.type "tuple",data:=.seq #[en.key,en.val] }->h'.objs.size=s.heap.objs.size+1 ->
   (∀ b o,b≠it->s.heap.get? b=some o->h'.get? b=some o)->Q (some (.ref s.heap.objs.size)) { s with heap:=h' }):wpAny (model prog w) A (pyNext (.ref it)) Q E s:=by
 obtain⟨h0,gn,dn,tk,os⟩:=s;obtain⟨r1,r2,r3⟩:=r;have ty0:Shared.TypeIs ⟨h0,gn,dn,tk,os⟩ (.ref it) "dict_itemiterator" := ⟨_,st,rfl⟩;unfold pyNext;refine zCy <| wpAny_attempt <| wpAny_callSpecial?_slot (name:=Str.ofString "__next__") ty0 PySem.F.slot_dict_itemiterator_next <| wpAny_call_entry PySem.F.slot_dict_itemiterator_next ty0 PySem.F.entry_dict_itemiterator_next ?_ (PySem.F.args_dict_itemiterator_next_1 _);refine zCy <| zCz <| zCy <| zCy ?_
 first
  | refine zCy <| wpAny_typeNameOfWhole_itemiter ty0 <| zCz ?_
  | refine zCy <| wpAny_typeNameOf_itemiter ty0 <| zCz ?_
 refine zCy <| wpAny_fieldsOf st rfl ?_;have owns:Builtin.Dict_items.ownsTuple "dict_itemiterator" = true:=by decide
 simp only [owns,if_true];show wpAny _ _ (if (Value.ref d==Value.none)=true then _ else _) _ _ _;rw[if_neg (fun z:(Value.ref d==Value.none)=true=>zAl z)];refine zCy <| zCz <| zCy <| wpAny_dictEntries r1 r3 ?_;rw[if_neg (by simp)];refine zCy <| zCz <| zCy <| wpAny_dictEpoch r1 r3 ?_;rw[if_neg (by simp)];refine zCz ?_;simp only [show ¬ ((i:Int)<0) by lia,if_false,Int.toNat_natCast,at'];refine zCy ?_
 first
  | refine zCy <| wpAny_typeNameOfWhole_itemiter ty0 <| zCz ?_
  | refine zCy <| wpAny_typeNameOf_itemiter ty0 <| zCz ?_
 refine zCy <| wpAny_isOneOf_itemiter ty0 ?_;show wpAny _ _ (setField (.ref it) 3 (rawInt ((i:Int)+1)) >>= _) _ _ _;refine zCy <| wpAny_setField_rec st (by simp) fun ha sa ka=>?_;replace ka:zAQ it h0 ha:=ka;replace sa:IsItemIter ha it d (i+1) es.size ep k x:=by
  have e:((i+1:Nat):Int)=(i:Int)+1:=by lia
  unfold IsItemIter;rw[e]
  simpa [rawInt] using sa
 have ty1:Shared.TypeIs ⟨ha,gn,dn,tk,os⟩ (.ref it) "dict_itemiterator" := ⟨_,sa,rfl⟩;refine zCy <| wpAny_holding <| zCy <| wpAny_isOneOf_itemiter ty1 <| zCy <| wpAny_isOneOf_itemiter ty1 ?_;show wpAny _ _ (Builtin.Dict_items.pairFromOwner (.ref it) 6 en.key en.val) _ _ _;unfold Builtin.Dict_items.pairFromOwner;refine zCy <| wpAny_newTuple ?_;have sb:IsItemIter (ha.push { cls:=.type "tuple",data:=.seq #[en.key,en.val] }) it d (i+1) es.size ep k x:=zAe _ sa;generalize eb:ha.push { cls:=.type "tuple",data:=.seq #[en.key,en.val] }=hb at sb;have za:ha.objs.size=h0.objs.size:=ka.1;have lt:it<h0.objs.size:=zAq st;have tb:hb.get? h0.objs.size=some { cls:=.type "tuple",data:=.seq #[en.key,en.val] }:=by
  rw[<- eb,<- za];exact zAt _ rfl
 have zb:hb.objs.size=h0.objs.size+1:=by rw[<- eb,zBp,za]
 have kb:∀ b o,b≠it->h0.get? b=some o->hb.get? b=some o:=fun b o n e=>by
  rw[<- eb];exact zAe _ (ka.extBut b o n e)
 show wpAny _ _ (Builtin.Dict_items.ownedTupleIsFree (.ref it) >>= _) _ _ ⟨hb,gn,dn,tk,os⟩;rw[za];clear eb sa ka ty1 za ha;unfold Builtin.Dict_items.ownedTupleIsFree;refine zCy <| zCy <| wpAny_field sb rfl (x:=.none) rfl <| zCz ?_;simp only [if_true];refine zCy <| wpAny_field sb rfl (x:=k) rfl <| zCy <| wpAny_field sb rfl (x:=x) rfl <| zCy <| wpAny_setField_rec sb (by simp) fun hc sc kc=>?_;replace kc:zAQ it hb hc:=kc;replace sc:IsItemIter hc it d (i+1) es.size ep en.key x:=sc;refine zCy <| wpAny_setField_rec sc (by simp) fun hd sd kd=>?_;replace kd:zAQ it hc hd:=kd;replace sd:IsItemIter hd it d (i+1) es.size ep en.key en.val:=sd;refine zCy <| wpAny_setField_rec sd (by simp) fun he se ke=>?_;replace ke:zAQ it hd he:=ke;replace se:IsItemIterOut he it d (i+1) es.size ep en.key en.val h0.objs.size:=se;refine zCy <| wpAny_setField_rec se (by simp) fun hf sf kf=>?_;replace kf:zAQ it he hf:=kf;replace sf:IsItemIterOut hf it d (i+1) es.size ep en.key en.val h0.objs.size:=sf;have up:∀ b o,b≠it->hb.get? b=some o->hf.get? b=some o:=fun b o n e=>kf.extBut b o n (ke.extBut b o n (kd.extBut b o n (kc.extBut b o n e)));refine zCy <| wpAny_letGo <| zCz <| zCz ⟨_,rfl,zCz (fin hf sf (up _ _ (zBk lt) tb) ?_ fun b o n e=>up b o n (kb b o n e))⟩;show hf.objs.size=h0.objs.size+1;rw[kf.1,ke.1,kd.1,kc.1,zb]
theorem I0 {i:Nat} {k x:Value} {Q:Option Value->Shared->Prop} (hh:A.handled=none) (st:IsItemIter s.heap it d i es.size ep k x) (r:BS s.heap d ob es ep) (le:es.size<=i)
  (fin:∀ h',Heap.ExtBut it s.heap h'->Q none { s with heap:=h' }):wpAny (model prog w) A (pyNext (.ref it)) Q E s:=by
 obtain⟨r1,r2,r3⟩:=r;have ty0:s.TypeIs (.ref it) "dict_itemiterator" := ⟨_,st,rfl⟩;unfold pyNext;refine zCy <| wpAny_attempt <| wpAny_callSpecial?_slot (name:=Str.ofString "__next__") ty0 PySem.F.slot_dict_itemiterator_next <| wpAny_call_entry PySem.F.slot_dict_itemiterator_next ty0 PySem.F.entry_dict_itemiterator_next ?_ (PySem.F.args_dict_itemiterator_next_1 _);refine zCy <| zCz <| zCy <| zCy ?_
 first
  | refine zCy <| wpAny_typeNameOfWhole_itemiter ty0 <| zCz ?_
  | refine zCy <| wpAny_typeNameOf_itemiter ty0 <| zCz ?_
 refine zCy <| wpAny_fieldsOf st rfl ?_;have owns:Builtin.Dict_items.ownsTuple "dict_itemiterator" = true:=by decide
 simp only [owns,if_true];show wpAny _ _ (if (Value.ref d==Value.none)=true then _ else _) _ _ _;rw[if_neg (fun z:(Value.ref d==Value.none)=true=>zAl z)];refine zCy <| zCz <| zCy <| wpAny_dictEntries r1 r3 ?_;rw[if_neg (by simp)];refine zCy <| zCz <| zCy <| wpAny_dictEpoch r1 r3 ?_;rw[if_neg (by simp)];refine zCz ?_;simp only [show ¬ ((i:Int)<0) by lia,if_false,Int.toNat_natCast,zBE le];refine zCy ?_
 first
  | refine zCy <| wpAny_typeNameOfWhole_itemiter ty0 <| zCz ?_
  | refine zCy <| wpAny_typeNameOf_itemiter ty0 <| zCz ?_
 show wpAny _ _ (setField (.ref it) 2 .none >>= _) _ _ _;refine zCy <| wpAny_setField st rfl (by simp) ?_;show wpAny _ _ (newExc (.type "StopIteration") [] >>= _) _ _ _;refine zCy ?_;simp only [newExc,newTuple];refine zCy <| wpAny_newObj_type ?_ (by size_fits);refine zCy (m:=firstArgMember _ _) <| wpAny_of_eq (a:=Value.none) (by first | rfl | (simp only [firstArgMember]; rfl)) <| wpAny_newObj_type ?_ (by size_fits);simp only [raiseNew];refine zCy <| wpAny_handled ?_;rw[show A.in1.handled=none from hh];refine zCy <| zCz <| wpAny_throw ?_;refine zCy <| wpAny_isInstance (T := "StopIteration") (b:=true) ⟨_,zAt _ rfl,rfl⟩ isSubtype_stop ?_;exact zCz (fin _ (((zAQ.update ..).extBut.push _).push _))
end
theorem Y1:entryFor table "dict_itemiterator.__iter__" = some Builtin.«dict_keyiterator.__iter__» := entryFor_alias (id' := "dict_keyiterator.__iter__") (by kernel_rfl) rfl (by ac_nf) (by kernel_rfl)
theorem F9 {prog:Program} {w:World} {A:Around} {E:Value->Shared->Prop} {s:Shared} {it d:Addr} {i n ep:Nat} {x y:Value} {Q:Value->Shared->Prop} (st:IsItemIter s.heap it d i n ep x y) (fin:Q (.ref it) s):wpAny (model prog w) A (pyIter (.ref it)) Q E s:=by
 have ty0:s.TypeIs (.ref it) "dict_itemiterator" := ⟨_,st,rfl⟩;refine wpAny_pyIter_slot ty0 PySem.F.slot_dict_itemiterator_iter <| wpAny_call_entry PySem.F.slot_dict_itemiterator_iter ty0 Y1 ?_ (PySem.F.args_dict_itemiterator_iter_1 _);show wpAny _ _ (ret (.ref it)) _ _ _;exact zCz ⟨_,rfl, "dict_itemiterator",_,ty0,PySem.F.slot_dict_itemiterator_next.lookup,fin⟩
def LG:HO->Prop
 | .tup _=>False
 | .own _=>False
 | .tbl _=>False
 | .frz _ _=>False
 | _=>True
section
variable {X:Cx} {pins:List (Addr×Obj)} {σ:St} {H:Hp} {s:Shared} {a:Addr} {u u':HO} {ob:Obj}
theorem Inv.swap (I:Inv X pins σ H s) (h:H a=some u) (n1:∀ xs,u ≠ .tup xs) (n2:∀ y,u ≠ .own y) (n3:∀ ps,u ≠ .tbl ps) (n4:∀ o v,X.H₀ a≠some (.frz o v)) (ok:ObjOk X.prog X.w H s.heap a u'):Inv X pins σ (upd H a u') s:=by
 have na:∀ {b:Addr},H b=none->b≠a:=fun e z=>by rw[z,h] at e; cases e
 have ht:∀ b xs,H b=some (.tup xs)->upd H a u' b=some (.tup xs):=fun b xs e=>by
  rw[Ar (fun z=>by rw[z,h] at e; injection e with e; exact n1 _ e)];exact e
 have ho:∀ b y,H b=some (.own y)->upd H a u' b=some (.own y):=fun b xs e=>by
  rw[Ar (fun z=>by rw[z,h] at e; injection e with e; exact n2 _ e)];exact e
 obtain⟨i1,i2,i3,i4,i5,i6,i7,i8,i9,i10,i11⟩:=I;refine⟨i1,i2,i3,⟨i4.keep,i4.slot,fun b o e n hx=>?_,i4.there,fun b xs e=>ht b xs (i4.tups b xs e),fun b o v e=>?_,fun b ps e=>?_⟩,i5,i6,?_,fun x c e=>?_,fun p hp=>?_,fun b o e=>?_,i11⟩
 ·have:=i4.free b o e n hx
  rw[Ar (na this)];exact this
 ·have e':=i4.frzs b o v e
  rw[Ar (fun z=>n4 o v (by rw[<- z]; exact e))];exact e'
 ·obtain⟨more,e'⟩:=i4.tbls b ps e
  refine⟨more,?_⟩;rw[Ar (fun z=>by rw[z,h] at e'; injection e' with e'; exact n3 _ e')];exact e'
 ·rw[Ar (na i7)]
  exact i7
 ·rw[Ar (na (i8 x c e))]
  exact i8 x c e
 ·obtain⟨p1,p2,p3⟩:=i9 p hp
  exact⟨p1,by rw[Ar (na p2)]; exact p2,p3⟩
 ·by_cases z:b=a
  ·subst z
   rw[Ab] at e;cases e;exact ok.stay (fun _ _ _ q=>q) (fun c q=>ho c _ q) ht
  ·rw[Ar z] at e
   exact (i10 b o e).stay (fun _ _ _ q=>q) (fun c q=>ho c _ q) ht
theorem Inv.notFrz (I:Inv X pins σ H s) (h:H a=some u) (bare:LG u):∀ o v,X.H₀ a≠some (.frz o v):=fun o v e=>by
 have:=I.base.frzs a o v e;rw[h] at this;injection this with this;rw[this] at bare;exact bare
theorem Inv.freeze (I:Inv X pins σ H s) (h:H a=some u) (bare:LG u) (ho:s.heap.get? a=some ob):Inv X pins σ (upd H a (.frz ob u)) s:=
 I.swap h (fun _ e=>by rw[e] at bare; exact bare) (fun _ e=>by rw[e] at bare; exact bare) (fun _ e=>by rw[e] at bare; exact bare) (I.notFrz h bare) ⟨ho,I.hok a u h⟩
theorem Inv.thaw (I:Inv X pins σ H s) (h:H a=some (.frz ob u)) (n:∀ o v,X.H₀ a≠some (.frz o v)):Inv X pins σ (upd H a u) s:=
 I.swap h (fun _ e=>by cases e) (fun _ e=>by cases e) (fun _ e=>by cases e) n (I.hok a _ h).2
end
def MC (t:TS):TS:=fun D σ H=>∃ a u,H a=some u/\LG u/\t { D with nx:=fun σ' H'=>∃ ob,H' a=some (.frz ob u)/\D.nx σ' (upd H' a u) } σ H
theorem GB {X:Cx} {st:Stmt} {t:TS} (h:PS X st t):PS X st (MC t):=by
 intro pins s σ H D I ⟨a,u,ha,bare,ht⟩;have n:=I.notFrz ha bare;refine Cs (h pins s σ H _ I ht) fun f s' sp=>?_
 match f,sp with
 | .next,⟨σ',H',I',ob,e,q⟩=>exact⟨σ',_,I'.thaw e n,q⟩
 | .brk,sp=>exact sp
 | .cont,sp=>exact sp
 | .ret v,sp=>exact sp
def MP (a:Addr) (ob:Obj) (kvs:List (List Dt×V)):It:=
 ⟨fun i H=>H a=some (.frz ob (.dT kvs))/\i<kvs.length,
   fun i H x H'=>∃ t b k v,x = .ref t/\H t=none/\kvs[i]?=some (k,v)/\H b=some (.tup (k.map kV))/\H'=upd H t (.tup [.ref b,v]),
   fun i H=>H a=some (.frz ob (.dT kvs))/\kvs.length<=i⟩
theorem BR {H:Hp}:∀ {kvs:List (List Dt×V)} {xs:List (List Dt×Addr×Value)} {i:Nat} {p:List Dt×V},KT H kvs xs->kvs[i]?=some p->∃ q,xs[i]?=some q/\p.1=q.1/\H q.2.1=some (.tup (p.1.map kV))/\RelV p.2 q.2.2
 | _,_,_,_,.nil,e=>by simp at e
 | _,_,0,_,.cons r _,e=>by simp at e; subst e; exact⟨_,rfl,r⟩
 | _,_,i+1,_,.cons _ t,e=>by
  obtain⟨q,h1,h2⟩:=BR (i:=i) t (by simpa using e);exact⟨q,by simpa using h1,h2⟩
theorem DZ {H:Hp}:∀ {kvs:List (List Dt×V)} {xs:List (List Dt×Addr×Value)},KT H kvs xs->kvs.length=xs.length
 | _,_,.nil=>rfl
 | _,_,.cons _ t=>by rw[zAf,zAf,DZ t]
theorem DM {P:Program} {w:World} {H:Hp} {h:Heap} {a:Addr} {ob:Obj} {kvs:List (List Dt×V)} {es:Array DictEntry} {ep:Nat} (ok:ObjOk P w H h a (.frz ob (.dT kvs))) (hd:ob.data = .dict es ep) :
  BS h a ob es ep/\es.size=kvs.length/\∀ (i:Nat) (p:List Dt×V),kvs[i]?=some p->∃ b x,(es[i]?).map (fun (e:DictEntry)=>(e.key,e.val))=some (Value.ref b,x)/\H b=some (.tup (p.1.map kV))/\RelV p.2 x:=by
 obtain⟨ho,z,y,xs,r,o,es',ep',h1,h2,h3,h4,h5⟩:=ok;rw[ho] at h1;cases h1;rw[hd] at h3;cases h3;have le:es.size=xs.length:=by rw[<- zAC,h4,zAb]
 refine⟨⟨ho,h2,hd⟩,by rw[le]; exact (DZ (show KT H kvs xs from r)).symm,fun i p e=>?_⟩;obtain⟨q,e1,e2,e3,e4⟩:=BR (show KT H kvs xs from r) e;refine⟨q.2.1,q.2.2,?_,e3,e4⟩;rw[<- zBf,h4,zAw,e1];rfl
theorem N3 {P:Program} {w:World} {K:zAa} {elts:List Expr} {k:Nat} {tp:Pos} (a it:Addr) (ob:Obj) (kvs:List (List Dt×V)) (es:Array DictEntry) (ep:Nat) (hdat:ob.data = .dict es ep) :
  Wl P w K (.Tuple elts k tp) (MP a ob kvs) [it] it (fun i h=>∃ x y,IsItemIter h it a i es.size ep x y) where
 mem:=by simp
 obj:=fun i h st b hb=>by
  obtain⟨x,y,e⟩:=st;have eb:b=it:=by simpa using hb
  subst eb;exact⟨_,e,fun v z=>by
   have z':Data.fields _=Data.cell v:=z;cases z'⟩
 keep:=fun i h h' st kk=>by
  obtain⟨x,y,e⟩:=st;exact⟨x,y,kk it (by simp) _ e⟩
 item:=by
  intro X hP hw hK hc i pins s σ H E I hf st hg;subst hP hw hK;obtain⟨x0,y0,se⟩:=st;obtain⟨ha,hi⟩:=hg;obtain⟨i0,i1,i2,i3,i4,i5⟩:=hf it (by simp);obtain⟨raw,sz,ent⟩:=DM (I.hok a _ ha) hdat;have ep':kvs[i]?=some kvs[i]:=zAd hi;generalize kvs[i]=p at ep';obtain⟨b,x,ee,hb,rx⟩:=ent i p ep';obtain⟨en,een,e2⟩:=zAW.mp ee;have ek:en.key = .ref b:=congrArg Prod.fst e2;have ev:en.val=x:=congrArg Prod.snd e2;refine Zr se raw een fun h1 ho hT hsz hk=>⟨_,rfl,?_⟩;rw[ek,ev] at ho hT;refine wpAny_letOwnedTupleGo_items ho fun h2 he2 hs2=>?_;have hs2':zAQ it h1 h2:=hs2;have ilt:it<s.heap.objs.size:=zAq se;have hnT:H s.heap.objs.size=none:=I.hok.fresh (zAn _);have up:∀ b o,b≠it->s.heap.get? b=some o->h2.get? b=some o:=fun b o h3 q=>(hs2'.2 b h3).trans (hk b o h3 q);have nch:∀ b,b∉[it]->b≠it:=fun b hb z=>hb (by simp [z]);have ntr:∀ b o,H b=some o->b≠it:=fun b o q z=>by (rw[z,i0] at q; cases q)
  have htup:h2.get? s.heap.objs.size=some { cls:=.type "tuple",data:=.seq #[.ref b,x] }:=(hs2'.2 _ (zBk ilt)).trans hT;have I1:Inv X pins σ (upd H s.heap.objs.size (.tup [.ref b,p.2])) { s with heap:=h2,gens:=s.gens,drawn:=s.drawn,toks:=s.toks }:=by
   refine I.step (ch:=[it]) (fun b hb=>?_) (fun b o _ _ hb q _=>up b o (nch b hb) q) (fun b o _ _ hb q _=>⟨o.slots,up b o (nch b hb) q⟩) (fun b o _ q n=>by rw[Ar (zAu (zAq q))]; exact n)
    (fun b o hb q=>⟨o,up b o (nch b hb) q⟩) (fun b xs q=>by rw[Ar (Ap q hnT)]; exact q) (fun b o u q=>by rw[Ar (Ap q hnT)]; exact q) (fun b ps q=>⟨#[],by rw[Ar (Ap q hnT),q]; simp⟩)
    (fun m hm=>?_) (fun c o q=>?_) I.bare
   ·have eb:b=it:=by simpa using hb
    subst eb;exact⟨i3,i1,i4,i5⟩
   ·obtain⟨o,es,ep,hoL,r⟩:=hm
    exact⟨o,es,ep,up _ o (Ne.symm i1) hoL,r⟩
   ·by_cases hc:c=s.heap.objs.size
    ·subst hc
     rw[Ab] at q;cases q;exact⟨Ci (by show 2<=1000; decide),[.ref b,x],.cons rfl (.cons rx .nil),_,htup,rfl,_,rfl⟩
    ·rw[Ar hc] at q
     refine (I.hok c o q).stay (fun c v hc2 q2=>?_) (fun c q2=>by rw[Ar (Ap q2 hnT)]; exact q2) (fun c xs q2=>by rw[Ar (Ap q2 hnT)]; exact q2);rcases hc2 with rfl | hc2
     ·exact up _ v (ntr _ _ q) q2
     ·exact up _ v (ntr _ _ hc2) q2
  refine⟨.ref s.heap.objs.size,_,I1,rfl,⟨_,b,p.1,p.2,rfl,hnT,ep',hb,rfl⟩,⟨_,_,he2⟩,fun c hc=>?_⟩;have eb:c=it:=by simpa using hc
  subst eb;rw[Ar (zAu ilt)];exact i0
 done:=by
  intro X hP hw hK hc i pins s σ H E I hf st hg;subst hP hw hK;obtain⟨x0,y0,se⟩:=st;obtain⟨ha,hi⟩:=hg;obtain⟨i0,i1,i2,i3,i4,i5⟩:=hf it (by simp);obtain⟨raw,sz,ent⟩:=DM (I.hok a _ ha) hdat;exact I0 (I.ok.hd hc) se raw (by lia) fun h' eb=>⟨rfl,I.turned (t':=s.toks) (fun b o hb q=>eb b o hb q) i0 i1 i3 i4 i5⟩
 self:=fun _ _ _ _ _ st h=>by
  obtain⟨x,y,e⟩:=st;exact F9 e h
def IZ (td:TE):TI:=fun σ H R=>td σ H fun x H1=>∃ a kvs,x = .ref a/\H1 a=some (.dT kvs)/\∀ ob,R (MP a ob kvs) (upd H1 a (.frz ob (.dT kvs)))
theorem BY {X:Cx} {o:Expr} {td:TE} {apos cpos tp:Pos} {elts:List Expr} {k:Nat} (ho:PE X o td)
  (hbase:attributeBase o "items" X.env (eval o X.env)=eval o X.env:=by rfl) (hline:(apos.endLine==cpos.line)=true:=by rfl) :
  PI X (.Tuple elts k tp) (.Call (.Attribute o "items" apos) [] [] cpos) (IZ td):=by
 intro pins s σ H R I h;refine wpAny_Call_method0_late hbase hline (Cs (ho pins s σ H _ I h) fun v s1 ⟨x,H1,I1,r1,a,kvs,ex,ha,q⟩=>?_);subst ex;obtain rfl:v=Value.ref a:=r1;obtain⟨t1,t2,t3⟩:=BZ I1 (.inr ⟨kvs,.inl ha⟩);obtain⟨z,y,xs,r,ob,es,ep,h1,h2,h3,h4,h5⟩:=(show ObjOk X.prog X.w H1 s1.heap a (.dT kvs) from I1.hok a _ ha);refine⟨"dict", "dict.items",PySem.F.plainAttrs_dict,PySem.F.slot_dict_items,PySem.F.type_dict_items,t1,t2,Calls.callWith_builtin rfl (PySem.evalArgs_none ?_)⟩;refine call_meetsIn PySem.F.slot_dict_items t1 PySem.F.entry_dict_items (PySem.F.args_dict_items_1 _) (Yv a t3) ⟨t1,?_⟩;have sd:BS (s1.heap.push { cls:=.type "dict_items",data:=.fields #[.ref a] }) a ob es ep:=⟨zAe _ h1,h2,h3⟩;refine C1 (s:={ s1 with heap:=s1.heap.push { cls:=.type "dict_items",data:=.fields #[.ref a] } }) (d:=a) ⟨_,zAt _ rfl,rfl,rfl⟩ sd ?_;have I2:Inv X pins σ H1 { s1 with heap:=(s1.heap.push { cls:=.type "dict_items",data:=.fields #[.ref a] }).push { cls:=.type "dict_itemiterator",data:=.fields #[.none,.bool false,.ref a,.int 0 0,.int es.size 0,.int ep 0,.none,.none] } }:=
  I1.kept (t':=s1.toks) fun b o e=>zAe _ (zAe _ e)
 have I3:=I2.freeze (ob:=ob) ha trivial (zAe _ (zAe _ h1));have le:s1.heap.objs.size<=(s1.heap.push { cls:=.type "dict_items",data:=.fields #[.ref a] }).objs.size:=by rw[zBp]; lia
 refine⟨_,[(s1.heap.push { cls:=.type "dict_items",data:=.fields #[.ref a] }).objs.size],_,_,_,rfl,I3,N3 a _ ob kvs es ep h3,⟨_,_,zAt _ rfl⟩,fun b hb=>?_,q ob⟩;have eb:=zAk.mp hb;subst eb;have fr:H1 (s1.heap.push { cls:=.type "dict_items",data:=.fields #[.ref a] }).objs.size=none:=I1.hok.fresh le;refine I1.fpOk le ?_;rw[Ar (fun z=>by rw[z,ha] at fr; cases fr)];exact fr
theorem Y6 {K':zAa} {a:Addr} {ob:Obj} {kvs:List (List Dt×V)} {i1 i2:Nat} {tb:TS} {D:Nj} {σ:St} {H:Hp} (Pv:Nat->St->Hp->Prop) (h0:Pv 0 σ H) (hl:∀ i σ H,i<=kvs.length->Pv i σ H->H a=some (.frz ob (.dT kvs)))
  (hs:∀ i k v σ H t b,kvs[i]?=some (k,v)->Pv i σ H->H t=none->H b=some (.tup (k.map kV))->tb { D with nx:=Pv (i+1),ct:=Pv (i+1),bk:=D.nx } ((σ.set i1 (some (.ref b))).set i2 (some v)) (upd H t (.tup [.ref b,v]))) (hd:∀ σ H,Pv kvs.length σ H->D.nx σ H) :
  ∃ W:Nat->Nat->St->Hp->Prop,(∃ m,W 0 m σ H)/\∀ i m σ H,W i m σ H ->
   ((MP a ob kvs).stop i H/\D.nx σ H)\/((MP a ob kvs).go i H/\∃ N:St->Hp->Prop,(∀ σ' H',N σ' H'->∃ m',m'<m/\W (i+1) m' σ' H')/\∀ x H',(MP a ob kvs).yld i H x H'->AR K' 2 (Mv (Ey i1) (Mv (Ey i2) EJ)) x σ H' fun σ2 H2=>tb { D with nx:=N,ct:=N,bk:=D.nx } σ2 H2):=by
 refine⟨fun i m σ H=>m=kvs.length-i/\i<=kvs.length/\Pv i σ H,⟨kvs.length,by simp,zAB _,h0⟩,?_⟩;rintro i m σ H ⟨rfl,hi,p⟩;have q:=hl i σ H hi p;by_cases hlt:i<kvs.length
 ·refine .inr ⟨⟨q,hlt⟩,Pv (i+1),fun σ' H' p'=>⟨kvs.length-(i+1),by lia,rfl,hlt,p'⟩,fun x H' y=>?_⟩
  obtain⟨t,b,k,v,ex,ht,hz,hb,e3⟩:=y;subst ex e3;exact⟨t,_,rfl,SqT.of Ab,rfl,_,_,rfl,_,_,rfl,rfl,hs i k v σ H t b hz p ht hb⟩
 ·obtain rfl:i=kvs.length:=by lia
  exact .inl ⟨⟨q,zAn _⟩,hd σ H p⟩
structure DfIn (K:zAa) (x:Str) (st:Stmt) (f:Addr):Prop where
 ns:zAD K zCD x=some (some (.ref f))
 ex:∃ (od an:Option Addr) (sl:Array (Option Value)) (oc kV dc pm cd ct:Value),K.lookup f=some ⟨oc,od,.func (zAS x x (Di st) (Cz st) (As st) .none kV dc pm an cd ct),sl⟩/\zBq K cd x=true
 kp:zAP K (.ref f)=true
structure MtIn (K:zAa) (x qual:Str) (st:Stmt) (f:Addr):Prop where
 fn:zCj K (.ref f)=true
 ex:∃ (od an:Option Addr) (sl:Array (Option Value)) (oc kV dc pm cd ct:Value),K.lookup f=some ⟨oc,od,.func (zAS x qual (Di st) (Cz st) (As st) .none kV dc pm an cd ct),sl⟩/\zBq K cd qual=true
 kp:zAP K (.ref f)=true
structure ClIn (K:zAa) (x:Str) (C:Addr):Prop where
 ns:zAD K zCD x=some (some (.ref C))
 pg:zBY K C Str.empty=true
 hd:zCp K C=true
 po:PySem.W.plainOver K C=true
 sa:zAc K (.ref C) "__setattr__" = some (some (.builtin "object.__setattr__"))
 mi:zCh K C=true
 kp:zAP K (.ref C)=true
theorem ClIn.cl {K:zAa} {x:Str} {C:Addr} (c:ClIn K x C):Cls K C:=⟨c.pg,c.hd,c.po,c.sa⟩
section
variable {K:zAa} {h:Heap} {mg:Str->Option Value} {x qual:Str} {st:Stmt} {f:Addr} {ps:List Str}
theorem DfIn.df (d:DfIn K x st f) (X:K.In h) (G:h.Ns zCD mg)
  (hb:∀ (kV dc pm:Value) (an:Option Addr) (cd ct:Value) (us:List Value),us.length=ps.length->bindArgs (zAS x x (Di st) (Cz st) (As st) .none kV dc pm an cd ct) ⟨us,[]⟩=pure (ps.zip us)):Def K mg x st ps:=by
 obtain⟨od,an,sl,oc,kV,dc,pm,cd,ct,l,c⟩:=d.ex;have F:=L7 (x:=x) (qual:=x) (st:=st) l c d.kp;exact⟨f,_,F,F.binds hb,zAz X G d.ns⟩
theorem MtIn.get (d:MtIn K x qual st f)
  (hb:∀ (kV dc pm:Value) (an:Option Addr) (cd ct:Value) (us:List Value),us.length=ps.length->bindArgs (zAS x qual (Di st) (Cz st) (As st) .none kV dc pm an cd ct) ⟨us,[]⟩=pure (ps.zip us)):∃ fd,Fun K x qual st f fd/\Binds K fd ps []:=by
 obtain⟨od,an,sl,oc,kV,dc,pm,cd,ct,l,c⟩:=d.ex;have F:=L7 (x:=x) (qual:=qual) (st:=st) l c d.kp;exact⟨_,F,F.binds hb⟩
end
section
variable {Pr:List Value->Prop}
theorem Yy (h:∀ a,Pr [a]):∀ us,us.length=1->Pr us
 | [a],_=>h a
theorem Jk (h:∀ a b,Pr [a,b]):∀ us,us.length=2->Pr us
 | [a,b],_=>h a b
theorem D9 (h:∀ a b c,Pr [a,b,c]):∀ us,us.length=3->Pr us
 | [a,b,c],_=>h a b c
theorem IQ (h:∀ a b c d,Pr [a,b,c,d]):∀ us,us.length=4->Pr us
 | [a,b,c,d],_=>h a b c d
theorem QP (h:∀ a b c d e,Pr [a,b,c,d,e]):∀ us,us.length=5->Pr us
 | [a,b,c,d,e],_=>h a b c d e
end
theorem vE {α β:Type} {f:α->β} {y:β} {v:α} {R:α->Prop} (e:y=f v) (h:R v):∃ x,y=f x/\R x:=⟨v,e,h⟩
theorem DfIn.of {K:zAa} {x:Str} {st:Stmt} {f:Addr} {od an:Option Addr} {sl:Array (Option Value)} {oc kV dc pm cd ct:Value} (n:zAD K zCD x=some (some (.ref f))) (l:K.lookup f=some ⟨oc,od,.func (zAS x x (Di st) (Cz st) (As st) .none kV dc pm an cd ct),sl⟩) (c:zBq K cd x=true) (k:zAP K (.ref f)=true):DfIn K x st f:=⟨n,⟨od,an,sl,oc,kV,dc,pm,cd,ct,l,c⟩,k⟩
theorem MtIn.of {K:zAa} {x qual:Str} {st:Stmt} {f:Addr} {od an:Option Addr} {sl:Array (Option Value)} {oc kV dc pm cd ct:Value} (n:zCj K (.ref f)=true) (l:K.lookup f=some ⟨oc,od,.func (zAS x qual (Di st) (Cz st) (As st) .none kV dc pm an cd ct),sl⟩) (c:zBq K cd qual=true) (k:zAP K (.ref f)=true):MtIn K x qual st f:=⟨n,⟨od,an,sl,oc,kV,dc,pm,cd,ct,l,c⟩,k⟩
theorem vF {α β γ δ:Type} {f:α->β} {g : γ -> δ} {x:β} {y:δ} {a:α} {b : γ} {R:α -> γ -> Prop} (e:x=f a) (e':y=g b) (h:R a b):∃ i j,x=f i/\y=g j/\R i j:=⟨a,b,e,e',h⟩
theorem vI {x y:V} {A:Addr->List V->Prop} {B:List V->Int->V->Prop} {R:V->Prop} {p:Addr} {xs:List V} {i:Int} {v:V} (e:x = .ref p) (e':y = .int i) (a:A p xs) (b:B xs i v) (h:R v):∃ p xs i v,x = .ref p/\y = .int i/\A p xs/\B xs i v/\R v:=⟨p,xs,i,v,e,e',a,b,h⟩
theorem vC {α:Type} {l:List α} {a:α} {t:List α} {R:α->List α->Prop} (e:l=a::t) (h:R a t):∃ v r,l=v::r/\R v r:=⟨a,t,e,h⟩
end L2
namespace CRP
abbrev Tr3:=Int×Int×Int
def fwFrom:List (Int×Int)->Int->Int->Int
 | [],_,_ => -1
 | (a,b)::r,k,c=>if c<a\/b<=c then k else fwFrom r (k+1) c
def fw (sp:List (Int×Int)) (c:Int):Int:=fwFrom sp 0 c
theorem W2 {l c:Int} (h:l<=c):∀ (sp:List (Int×Int)) (k:Int),(∀ p∈sp,¬ (l<p.1/\p.1<=c)/\¬ (l<p.2/\p.2<=c))->fwFrom sp k c=fwFrom sp k l
 | [],_,_=>rfl
 | (a,b)::r,k,no=>by
  have ih:=W2 h r (k+1) fun p hp=>no p (zAg _ hp);obtain⟨n1,n2⟩:=no (a,b) zAj;unfold fwFrom
  dsimp only at n1 n2
  by_cases z:c<a\/b<=c
  ·rw[if_pos z,if_pos (by lia)]
  ·rw[if_neg z,if_neg (by lia),ih]
def Fv:List Tr3->Int->Int->Int->List Tr3
 | [],lo,hi,k=>[(lo,hi,k)]
 | [(l,h,k')],lo,hi,k=>if k'=k then [(l,hi,k)] else [(l,h,k'),(lo,hi,k)]
 | x::y::r,lo,hi,k=>x::Fv (y::r) lo hi k
theorem stepP_snoc (l h k' lo hi k:Int):∀ init:List Tr3,Fv (init++[(l,h,k')]) lo hi k=if k'=k then init++[(l,hi,k)] else init++[(l,h,k')]++[(lo,hi,k)]
 | []=>by
  show Fv [(l,h,k')] lo hi k=_;unfold Fv;by_cases z:k'=k
  ·rw[if_pos z,if_pos z]; rfl
  ·rw[if_neg z,if_neg z]; rfl
 | [x]=>by
  have ih:=stepP_snoc l h k' lo hi k [];show x::Fv [(l,h,k')] lo hi k=_;rw[show Fv [(l,h,k')] lo hi k=_ from ih];by_cases z:k'=k
  ·rw[if_pos z,if_pos z]; rfl
  ·rw[if_neg z,if_neg z]; rfl
 | x::y::r=>by
  have ih:=stepP_snoc l h k' lo hi k (y::r);show x::Fv (y::r++[(l,h,k')]) lo hi k=_;rw[ih];by_cases z:k'=k
  ·rw[if_pos z,if_pos z]; rfl
  ·rw[if_neg z,if_neg z]; rfl
def Ch (f:Int->Int):Int->Option Int->List Tr3->Int->Prop
 | s,_,[],e=>s=e
 | s,lk,(l,h,k)::r,e=>l=s/\l<h/\lk≠some k/\(∀ c,l<=c->c<h->f c=k)/\Ch f h (some k) r e
theorem Ch.step {f:Int->Int} {hi k:Int}:∀ {told:List Tr3} {s:Int} {lk:Option Int} {e:Int},Ch f s lk told e->e<hi->(∀ c,e<=c->c<hi->f c=k)->(told=[]->lk≠some k)->Ch f s lk (Fv told e hi k) hi
 | [],s,lk,e,h,h1,h2,h3=>by
  have e':s=e:=h;subst e';exact⟨rfl,h1,h3 rfl,h2,rfl⟩
 | [(l,h,k')],s,lk,e,⟨a1,a2,a3,a4,a5⟩,h1,h2,h3=>by
  have e':h=e:=a5;subst e';unfold Fv;by_cases z:k'=k
  ·rw[if_pos z]
   refine⟨a1,by lia,by rw[<- z]; exact a3,fun c c1 c2=>?_,rfl⟩;by_cases q:c<h
   ·rw[a4 c c1 q,z]
   ·exact h2 c (by lia) c2
  ·rw[if_neg z]
   exact⟨a1,a2,a3,a4,rfl,h1,fun q=>z (Option.some.inj q),h2,rfl⟩
 | (l,h,k')::y::r,s,lk,e,⟨a1,a2,a3,a4,a5⟩,h1,h2,h3=>by
  unfold Fv;exact⟨a1,a2,a3,a4,Ch.step (told:=y::r) a5 h1 h2 fun z=>by cases z⟩
def foldP (sp:List (Int×Int)) (ms:List Int) (i:Nat):List Tr3:=(zAI i).foldl (fun told j=>Fv told (ms.getD j 0) (ms.getD (j+1) 0) (fw sp (ms.getD j 0))) []
theorem foldP_succ (sp:List (Int×Int)) (ms:List Int) (i:Nat):foldP sp ms (i+1)=Fv (foldP sp ms i) (ms.getD i 0) (ms.getD (i+1) 0) (fw sp (ms.getD i 0)):=by
 unfold foldP;rw[zBN,List.foldl_append];rfl
theorem Vu (lo hi k:Int):∀ told:List Tr3,(Fv told lo hi k).length<=told.length+1
 | []=>by unfold Fv; simp
 | [(l,h,k')]=>by unfold Fv; split <;> simp
 | x::y::r=>by
  have:=Vu lo hi k (y::r);unfold Fv;simp only [zAf] at *
  lia
theorem foldP_len (sp:List (Int×Int)) (ms:List Int):∀ i,(foldP sp ms i).length<=i
 | 0=>zAB _
 | i+1=>by
  rw[foldP_succ];have:=foldP_len sp ms i;have:=Vu (ms.getD i 0) (ms.getD (i+1) 0) (fw sp (ms.getD i 0)) (foldP sp ms i)
  lia
theorem get_lt {ms:List Int} (h:ms.Pairwise (· < ·)) {i j:Nat} (hij:i<j) (hj:j<ms.length):ms.getD i 0<ms.getD j 0:=by
 rw[zAs,zAs,zAd (by lia),zAd hj];exact zBb.mp h i j (by lia) hj hij
theorem fold_ch {sp:List (Int×Int)} {ms:List Int} (h:ms.Pairwise (· < ·)) (hb:∀ p∈sp,p.1∈ms/\p.2∈ms):∀ i,i<ms.length->ms.getD 0 0=0->Ch (fw sp) 0 none (foldP sp ms i) (ms.getD i 0)
 | 0,_,h0=>h0.symm
 | i+1,hi,h0=>by
  have ih:=fold_ch h hb i (by lia) h0;rw[foldP_succ];refine ih.step (get_lt h (zBB _) hi) (fun c c1 c2=>?_) (fun _ z=>by cases z);refine W2 c1 sp 0 fun p hp=>?_;have no:∀ y∈ms,¬ (ms.getD i 0<y/\y<=c):=fun y hy ⟨z1,z2⟩=>by
   obtain⟨j,hj,e⟩:=zAU hy;have ej:ms.getD j 0=y:=by rw[zAs,zAd hj]; exact e
   rcases zBH j (i+1) with q | q | q
   ·rcases Nat.lt_or_ge j i with q' | q'
    ·have:=get_lt h q' (by lia); lia
    ·have:j=i:=by lia
     subst this; lia
   ·subst q; lia
   ·have:=get_lt h q hj; lia
  exact⟨no _ (hb p hp).1,no _ (hb p hp).2⟩
theorem Ch.head {f:Int->Int} {s:Int} {lk:Option Int} {e:Int}:∀ {ps:List Tr3},Ch f s lk ps e->s<e->∃ p,ps[0]?=some p/\p.1=s
 | [],h,z=>absurd (show s=e from h) (by lia)
 | (l,hh,k)::r,h,_=>⟨_,rfl,h.1⟩
theorem Ch.get {f:Int->Int}:∀ {ps:List Tr3} {s:Int} {lk:Option Int} {e:Int} {i:Nat} {p:Tr3},Ch f s lk ps e->ps[i]?=some p->p.1<p.2.1/\(∀ c,p.1<=c->c<p.2.1->f c=p.2.2)/\(p.2.1<e->∃ q,ps[i+1]?=some q/\q.1=p.2.1)/\s<=p.1/\p.2.1<=e
 | [],_,_,_,_,_,_,z=>by simp at z
 | (l,h,k)::r,s,lk,e,0,p,⟨a1,a2,a3,a4,a5⟩,z=>by
  simp at z;subst z;refine⟨a2,a4,fun q=>?_,by show s<=l; lia,?_⟩
  ·obtain⟨p,h1,h2⟩:=a5.head q
   exact⟨p,by simpa using h1,h2⟩
  ·show h<=e
   cases r with
   | nil=>exact Int.le_of_eq (show h=e from a5)
   | cons x r=>
    have:=Ch.get (i:=0) a5 rfl
    lia
 | (l,h,k)::r,s,lk,e,i+1,p,⟨a1,a2,a3,a4,a5⟩,z=>by
  obtain⟨b1,b2,b3,b4,b5⟩:=Ch.get (i:=i) a5 (by simpa using z);refine⟨b1,b2,fun q=>?_,by lia,b5⟩;obtain⟨y,h1,h2⟩:=b3 q;exact⟨y,by simpa using h1,h2⟩
end CRP
namespace CR
abbrev Rn:=Int×Int
def inR (ps:List Rn) (n:Int):Bool:=ps.any fun p=>decide (p.1<=n)&&decide (n<p.2)
structure Frm (ps:List Rn):Prop where
 lt:∀ p∈ps,p.1<p.2
 pw:ps.Pairwise fun p q=>p.2<q.1
theorem inR_iff {ps:List Rn} {n:Int}:inR ps n=true↔∃ p∈ps,p.1<=n/\n<p.2:=by
 unfold inR;rw[zCx];constructor
 ·rintro ⟨p,hp,h⟩
  rw[zAp,decide_eq_true_eq,decide_eq_true_eq] at h;exact⟨p,hp,h⟩
 ·rintro ⟨p,hp,h⟩
  exact⟨p,hp,by rw[zAp,decide_eq_true_eq,decide_eq_true_eq]; exact h⟩
theorem Qj (ps qs:List Rn) (n:Int):inR (ps++qs) n=(inR ps n||inR qs n):=by unfold inR; rw[List.any_append]
theorem Gc {a b:Bool} (h:a=true↔b=true):a=b:=by cases a <;> cases b <;> simp_all
def cutM (lo hi:Int) (p:Rn):Rn:=(if lo>p.1 then lo else p.1,if hi<p.2 then hi else p.2)
def cutW (ps:List Rn) (lo hi:Int):List Rn:=(ps.map (cutM lo hi)).filter fun p=>decide (p.1<p.2)
theorem cutW_in (ps:List Rn) (lo hi n:Int):inR (cutW ps lo hi) n=(inR ps n&&(decide (lo<=n)&&decide (n<hi))):=by
 apply Gc;rw[zAp,zAp,decide_eq_true_eq,decide_eq_true_eq,inR_iff,inR_iff];constructor
 ·rintro ⟨p,hp,h1,h2⟩
  obtain⟨hp,_⟩:=zBr.mp hp;obtain⟨q,hq,rfl⟩:=zAy.mp hp;unfold cutM at h1 h2;refine⟨⟨q,hq,?_,?_⟩,?_,?_⟩ <;> (simp only at h1 h2; split at h1 <;> split at h2 <;> omega)
 ·rintro ⟨⟨q,hq,h1,h2⟩,h3,h4⟩
  refine⟨cutM lo hi q,zBr.mpr ⟨zAy.mpr ⟨q,hq,rfl⟩,?_⟩,?_,?_⟩
  ·rw[decide_eq_true_eq]; unfold cutM; simp only; split <;> split <;> omega
  ·unfold cutM; simp only; split <;> omega
  ·unfold cutM; simp only; split <;> omega
theorem Ff {ps:List Rn} (lo hi:Int) (h:ps.Pairwise fun p q=>p.2<q.1):Frm (cutW ps lo hi):=by
 refine⟨fun p hp=>?_,?_⟩
 ·exact of_decide_eq_true (zBr.mp hp).2
 ·refine List.Pairwise.filter _ ?_
  rw[zBI];refine h.imp ?_;intro p q h;unfold cutM;simp only
  split <;> split <;> lia
def below (ps:List Rn) (m:Int):Int:=(ps.map fun p=>if p.1<m then (if m<p.2 then m else p.2)-p.1 else 0).sum
def lowW:List Rn->Int->List Rn
 | [],_=>[]
 | p::ps,n=>(if 0<n then [(p.1,if p.1+n<p.2 then p.1+n else p.2)] else [])++lowW ps (n-(p.2-p.1))
theorem Go (p:Rn) (ps:List Rn) (m:Int):below (p::ps) m=(if p.1<m then (if m<p.2 then m else p.2)-p.1 else 0)+below ps m:=by
 unfold below; rw[zAN,List.sum_cons]
theorem CP:∀ {ps:List Rn} (m:Int),(∀ p∈ps,p.1<p.2)->0<=below ps m
 | [],_,_=>by unfold below; simp
 | p::ps,m,h=>by
  have ih:=CP (ps:=ps) m fun q hq=>h q (zAg _ hq);have:=h p zAj;rw[Go]
  split
  ·split <;> lia
  ·lia
theorem Lb:∀ {ps:List Rn} {m:Int},(∀ p∈ps,m<=p.1)->below ps m=0
 | [],_,_=>by unfold below; simp
 | p::ps,m,h=>by
  have ih:=Lb (ps:=ps) (m:=m) fun q hq=>h q (zAg _ hq);have:=h p zAj;rw[Go,ih]
  split <;> lia
theorem We:∀ {ps:List Rn} {n:Int},(∀ p∈ps,p.1<p.2)->n<=0->lowW ps n=[]
 | [],_,_,_=>rfl
 | p::ps,n,h,hn=>by
  have:=h p zAj;unfold lowW;rw[if_neg (by lia),We (ps:=ps) (fun q hq=>h q (zAg _ hq)) (by lia)];rfl
theorem Xl:∀ {ps:List Rn},Frm ps->∀ n m:Int,inR (lowW ps n) m=(inR ps m&&decide (below ps m<n))
 | [],_,n,m=>by simp [lowW,inR]
 | p::ps,f,n,m=>by
  have hp:=f.lt p zAj;have f':Frm ps:=⟨fun q hq=>f.lt q (zAg _ hq),(zAJ.mp f.pw).2⟩;have hq:=(zAJ.mp f.pw).1;have ih:=Xl f' (n-(p.2-p.1)) m;unfold lowW;rw[Qj,ih,Go];have e:inR (p::ps) m=(inR [p] m||inR ps m):=Qj [p] ps m;rw[e];have one:∀ q:Rn,inR [q] m=(decide (q.1<=m)&&decide (m<q.2)):=fun q=>by simp [inR]
  by_cases hm:m<p.2
  ·-- nothing behind p is concerned
   have b0:below ps m=0:=Lb fun q h=>by have:=hq q h; lia
   have r0:inR ps m=false:=by
    apply zBc.mpr;intro h;obtain⟨q,h1,h2,_⟩:=inR_iff.mp h;have:=hq q h1
    lia
   rw[b0,r0,one,Bool.false_and,Bool.or_false,Bool.or_false];apply Gc;by_cases hn:0<n
   ·rw[if_pos hn,one]
    simp only [zAp,decide_eq_true_eq];constructor
    ·rintro ⟨h1,h2⟩
     split at h2 <;> (refine⟨⟨h1,hm⟩,?_⟩; split <;> (try split) <;> lia)
    ·rintro ⟨⟨h1,h2⟩,h3⟩
     refine⟨h1,?_⟩
     split at h3
     ·split <;> lia
     ·split <;> lia
   ·rw[if_neg hn]
    simp only [zAp,decide_eq_true_eq];constructor
    ·intro h; exact absurd h (by simp [inR])
    ·rintro ⟨⟨h1,h2⟩,h3⟩
     split at h3 <;> (try split at h3) <;> lia
  ·have e1:inR [p] m=false:=by rw[one]; simp; lia
   have e2:inR (if 0<n then [(p.1,if p.1+n<p.2 then p.1+n else p.2)] else []) m=false:=by
    split
    ·rw[one]; simp only [Bool.and_eq_false_iff,decide_eq_false_iff_not]; right; split <;> lia
    ·rfl
   rw[e1,e2,Bool.false_or,Bool.false_or,if_pos (by lia),if_neg (by lia)]
   congr 1
   apply Gc;rw[decide_eq_true_eq,decide_eq_true_eq]
   lia
theorem D7:∀ {ps:List Rn} {n:Int} {q:Rn},q∈lowW ps n->∃ p∈ps,q.1=p.1/\q.2<=p.2
 | [],_,_,h=>by simp [lowW] at h
 | p::ps,n,q,h=>by
  unfold lowW at h;rcases zAA.mp h with h | h
  ·split at h
   ·rw[zAk] at h
    subst h;refine⟨p,zAj,rfl,?_⟩;simp only
    split <;> lia
   ·cases h
  ·obtain⟨r,hr,h1,h2⟩:=D7 h
   exact⟨r,zAg _ hr,h1,h2⟩
theorem Zw:∀ {ps:List Rn} (n:Int),Frm ps->Frm (lowW ps n)
 | [],_,_=>⟨fun _ h=>(nomatch h),.nil⟩
 | p::ps,n,f=>by
  have hp:=f.lt p zAj;have f':Frm ps:=⟨fun q hq=>f.lt q (zAg _ hq),(zAJ.mp f.pw).2⟩;have hq:=(zAJ.mp f.pw).1;have ih:=Zw (n-(p.2-p.1)) f';unfold lowW
  split
  ·refine⟨fun q h=>?_,?_⟩
   ·rcases zAA.mp h with h | h
    ·rw[zAk] at h
     subst h;simp only
     split <;> lia
    ·exact ih.lt q h
   ·rw[List.singleton_append,zAJ]
    refine⟨fun q h=>?_,ih.pw⟩;obtain⟨r,hr,h1,_⟩:=D7 h;have:=hq r hr;simp only
    split <;> lia
  ·exact ih
theorem lowW_len:∀ (ps:List Rn) (n:Int),(lowW ps n).length<=ps.length
 | [],_=>zAn _
 | p::ps,n=>by
  have:=lowW_len ps (n-(p.2-p.1));unfold lowW;rw[zAm,zAf]
  split <;> simp <;> lia
def maxI (a b:Int):Int:=if b>a then b else a
def minI (a b:Int):Int:=if b<a then b else a
def leftW (e:Int):Int->List Rn->List Rn
 | b,[]=>if b<e then [(b,e)] else []
 | b,q::qs=>(if b<minI q.1 e then [(b,minI q.1 e)] else [])++leftW e (maxI b q.2) qs
def outW (ps qs:List Rn):List Rn:=(ps.map fun p=>leftW p.2 p.1 qs).flatten
theorem Tc (e:Int):∀ {qs:List Rn},(∀ q∈qs,q.1<q.2)->(qs.Pairwise fun p q=>p.2<q.1)->∀ b m:Int,inR (leftW e b qs) m=((decide (b<=m)&&decide (m<e)) && !inR qs m)
 | [],_,_,b,m=>by
  unfold leftW;apply Gc
  split <;> simp [inR] <;> omega
 | q::qs,hl,hw,b,m=>by
  have hq:=hl q zAj;have hp:=(zAJ.mp hw).1;have ih:=Tc e (fun q h=>hl q (zAg _ h)) (zAJ.mp hw).2 (maxI b q.2) m;unfold leftW;have eq:inR (q::qs) m=(inR [q] m||inR qs m):=Qj [q] qs m;rw[Qj,ih,eq];have one:∀ q:Rn,inR [q] m=(decide (q.1<=m)&&decide (m<q.2)):=fun q=>by simp [inR]
  rw[one];have mn:∀ x,x<minI q.1 e↔x<q.1/\x<e:=fun x=>by unfold minI; split <;> omega
  have e1:inR (if b<minI q.1 e then [(b,minI q.1 e)] else []) m=(decide (b<=m)&&(decide (m<q.1)&&decide (m<e))):=by
   apply Gc;by_cases hb:b<minI q.1 e
   ·rw[if_pos hb,one]
    simp only [zAp,decide_eq_true_eq];rw[mn]
   ·rw[if_neg hb]
    simp only [zAp,decide_eq_true_eq];constructor
    ·intro h; exact absurd h (by simp [inR])
    ·intro h
     exact absurd ((mn b).mpr ⟨by omega,by omega⟩) hb
  rw[e1];have far:m<q.1->inR qs m=false:=fun h=>by
   apply zBc.mpr;intro h';obtain⟨r,h1,h2,_⟩:=inR_iff.mp h';have:=hp r h1;omega
  have mx:∀ x,maxI b q.2<=x↔b<=x/\q.2<=x:=fun x=>by unfold maxI; split <;> omega
  apply Gc;rw[Bool.or_eq_true];simp only [zAp,decide_eq_true_eq,zBd,Bool.or_eq_false_iff,Bool.and_eq_false_iff,decide_eq_false_iff_not];rw[mx];constructor
  ·rintro (⟨h1,h2,h3⟩ | ⟨⟨⟨h1,h2⟩,h3⟩,h4⟩)
   ·exact⟨⟨h1,h3⟩,.inl (by omega),far h2⟩
   ·exact⟨⟨h1,h3⟩,.inr (by omega),h4⟩
  ·rintro ⟨⟨h1,h2⟩,h3,h4⟩
   by_cases h5:m<q.1
   ·exact .inl ⟨h1,h5,h2⟩
   ·refine .inr ⟨⟨⟨h1,?_⟩,h2⟩,h4⟩
    rcases h3 with h3 | h3 <;> omega
set_option tactic.hygienic true in
theorem Ii (e:Int):∀ {qs:List Rn} {b:Int} {r:Rn},r∈leftW e b qs->b<=r.1/\r.1<r.2/\r.2<=e
 | [],b,r,h=>by
  unfold leftW at h
  split at h
  ·rw[zAk] at h; subst h; simp only; lia
  ·cases h
 | q::qs,b,r,h=>by
  unfold leftW at h;rcases zAA.mp h with h | h
  ·split at h
   ·rw[zAk] at h; subst h; rename_i hh; simp only; refine⟨Int.le_refl _,hh,?_⟩; unfold minI; split <;> lia
   ·cases h
  ·have:=Ii e h
   have hx:b<=maxI b q.2:=by unfold maxI; split <;> lia
   lia
theorem A2 (e:Int):∀ {qs:List Rn},(∀ q∈qs,q.1<q.2)->∀ b:Int,(leftW e b qs).Pairwise fun p q=>p.2<q.1
 | [],_,b=>by unfold leftW; split <;> simp
 | q::qs,hl,b=>by
  have hq:=hl q zAj;have ih:=A2 e (fun q h=>hl q (zAg _ h)) (maxI b q.2);unfold leftW
  split
  ·rw[List.singleton_append,zAJ]
   refine⟨fun r h=>?_,ih⟩;have h1:=Ii e h;have hx:q.2<=maxI b q.2:=by unfold maxI; split <;> lia
   simp only;have:minI q.1 e<=q.1:=by unfold minI; split <;> lia
   lia
  ·exact ih
theorem outW_in {ps qs:List Rn} (fq:Frm qs) (m:Int):inR (outW ps qs) m=(inR ps m && !inR qs m):=by
 apply Gc;rw[zAp,zBd,inR_iff,inR_iff];unfold outW;constructor
 ·rintro ⟨r,hr,h1,h2⟩
  obtain⟨l,hl,hr⟩:=zCc.mp hr;obtain⟨p,hp,rfl⟩:=zAy.mp hl;have z:inR (leftW p.2 p.1 qs) m=true:=inR_iff.mpr ⟨r,hr,h1,h2⟩;rw[Tc p.2 fq.lt fq.pw] at z;simp only [zAp,decide_eq_true_eq,zBd] at z;exact⟨⟨p,hp,z.1.1,z.1.2⟩,z.2⟩
 ·rintro ⟨⟨p,hp,h1,h2⟩,h3⟩
  have z:inR (leftW p.2 p.1 qs) m=true:=by
   rw[Tc p.2 fq.lt fq.pw];simp only [zAp,decide_eq_true_eq,zBd];exact⟨⟨h1,h2⟩,h3⟩
  obtain⟨r,hr,h⟩:=inR_iff.mp z;exact⟨r,zCc.mpr ⟨_,zAy.mpr ⟨p,hp,rfl⟩,hr⟩,h⟩
theorem outW_frm {ps qs:List Rn} (fp:Frm ps) (fq:Frm qs):Frm (outW ps qs):=by
 refine⟨fun r hr=>?_,?_⟩
 ·obtain⟨l,hl,hr⟩:=zCc.mp hr
  obtain⟨p,hp,rfl⟩:=zAy.mp hl;exact (Ii p.2 hr).2.1
 ·unfold outW
  rw[List.pairwise_flatten];refine⟨fun l hl=>?_,?_⟩
  ·obtain⟨p,hp,rfl⟩:=zAy.mp hl
   exact A2 p.2 fq.lt p.1
  ·rw[zBI]
   refine fp.pw.imp ?_;intro p q h r hr t ht;have h1:=Ii p.2 hr;have h2:=Ii q.2 ht;omega
theorem leftW_len (e:Int):∀ (qs:List Rn) (b:Int),(leftW e b qs).length<=qs.length+1
 | [],b=>by unfold leftW; split <;> simp
 | q::qs,b=>by
  have:=leftW_len e qs (maxI b q.2);unfold leftW;rw[zAm,zAf]
  split <;> simp <;> lia
theorem outW_len (ps qs:List Rn):(outW ps qs).length<=ps.length*(qs.length+1):=by
 unfold outW
 induction ps with
 | nil=>simp
 | cons p ps ih=>
  have:=leftW_len p.2 qs p.1;rw[zAN,zBy,zAm,zAf,Nat.add_mul];omega
theorem cutW_len (ps:List Rn) (lo hi:Int):(cutW ps lo hi).length<=ps.length:=by
 unfold cutW;have:=zBg (fun p:Rn=>decide (p.1<p.2)) (ps.map (cutM lo hi));rw[zAb] at this;exact this
theorem lowW_nil (n:Int):lowW [] n=[]:=rfl
theorem lowW_cons (p:Rn) (ps:List Rn) (n:Int):lowW (p::ps) n=(if 0<n then [(p.1,if p.1+n<p.2 then p.1+n else p.2)] else [])++lowW ps (n-(p.2-p.1)):=rfl
theorem leftW_nil (e b:Int):leftW e b []=if b<e then [(b,e)] else []:=rfl
theorem leftW_cons (e b:Int) (q:Rn) (qs:List Rn):leftW e b (q::qs)=(if b<minI q.1 e then [(b,minI q.1 e)] else [])++leftW e (maxI b q.2) qs:=rfl
end CR
namespace CRT
open CR CRP
section
variable {ν : Type}
abbrev Sx (ν : Type):=Int×Int × ν × Int
abbrev Av (ν : Type) := ν × (Int×Int)×Option Int
def payW (c:Av ν) (un:List Rn):List Rn:=match c.2.2 with
 | none=>cutW un c.2.1.1 c.2.1.2
 | some n=>lowW (cutW un c.2.1.1 c.2.1.2) n
def tag (nm : ν) (k:Int) (ps:List Rn):List (Sx ν):=ps.map fun p=>(p.1,p.2,nm,k)
def paidS:List (Av ν)->List Rn->List (Sx ν)
 | [],_=>[]
 | c::cs,un=>tag c.1 (-1) (payW c un)++paidS cs (outW un (payW c un))
def leftS:List (Av ν)->List Rn->List Rn
 | [],un=>un
 | c::cs,un=>leftS cs (outW un (payW c un))
def borneS (nm : ν) (g:Int->Int) (parts:List Tr3) (un:List Rn):List (Sx ν):=(parts.map fun p=>tag nm (g p.2.2) (cutW un p.1 p.2.1)).flatten
def F3 (S:List (Sx ν)) (n:Int):Prop:=∃ s∈S,s.1<=n/\n<s.2.1
theorem Yl {S T:List (Sx ν)} {n:Int}:F3 (S++T) n↔F3 S n\/F3 T n:=by
 unfold F3;constructor
 ·rintro ⟨s,hs,h⟩
  rcases zAA.mp hs with z | z
  ·exact .inl ⟨s,z,h⟩
  ·exact .inr ⟨s,z,h⟩
 ·rintro (⟨s,hs,h⟩ | ⟨s,hs,h⟩)
  ·exact⟨s,zAA.mpr (.inl hs),h⟩
  ·exact⟨s,zAA.mpr (.inr hs),h⟩
theorem Qf {nm : ν} {k:Int} {ps:List Rn} {n:Int}:F3 (tag nm k ps) n↔inR ps n=true:=by
 rw[inR_iff];unfold F3 tag;constructor
 ·rintro ⟨s,hs,h⟩
  obtain⟨p,hp,rfl⟩:=zAy.mp hs;exact⟨p,hp,h⟩
 ·rintro ⟨p,hp,h⟩
  exact⟨_,zAy.mpr ⟨p,hp,rfl⟩,h⟩
def apart (s t:Sx ν):Prop:=(s.2.1<=t.1\/t.2.1<=s.1)/\(s.2.1=t.1\/t.2.1=s.1->s.2.2≠t.2.2)
structure Sep (S:List (Sx ν)):Prop where
 lt:∀ s∈S,s.1<s.2.1
 pw:S.Pairwise apart
theorem apart.symm {s t:Sx ν} (h:apart s t):apart t s:=⟨h.1.symm,fun z e=>h.2 z.symm e.symm⟩
theorem Sep.nil:Sep ([]:List (Sx ν)):=⟨fun _ h=>(nomatch h),.nil⟩
theorem W3 {nm : ν} {k:Int} {ps:List Rn} (f:Frm ps):Sep (tag nm k ps):=by
 refine⟨fun s hs=>?_,?_⟩
 ·obtain⟨p,hp,rfl⟩:=zAy.mp hs
  exact f.lt p hp
 ·unfold tag
  rw[zBI];refine f.pw.imp_of_mem fun {p q} hp hq h=>⟨.inl (by show p.2<=q.1; lia),fun z=>?_⟩;have:=f.lt p hp;have:=f.lt q hq;rcases z with z | z
  ·have z':p.2=q.1:=z
   lia
  ·have z':q.2=p.1:=z
   lia
theorem Wv {S T:List (Sx ν)} (a:Sep S) (b:Sep T) (dj:∀ n,F3 S n->F3 T n->False) (ky:∀ s∈S,∀ t∈T,(s.2.1=t.1\/t.2.1=s.1)->s.2.2≠t.2.2):Sep (S++T):=by
 refine⟨fun s hs=>?_,List.pairwise_append.mpr ⟨a.pw,b.pw,fun s hs t ht=>⟨?_,ky s hs t ht⟩⟩⟩
 ·rcases zAA.mp hs with z | z
  ·exact a.lt s z
  ·exact b.lt s z
 ·have l1:=a.lt s hs
  have l2:=b.lt t ht;by_cases c1:s.2.1<=t.1
  ·exact .inl c1
  by_cases c2:t.2.1<=s.1
  ·exact .inr c2
  exfalso;by_cases c3:s.1<=t.1
  ·exact dj t.1 ⟨s,hs,c3,by lia⟩ ⟨t,ht,by lia,l2⟩
  ·exact dj s.1 ⟨s,hs,by lia,l1⟩ ⟨t,ht,by lia,by lia⟩
theorem payW_frm {c:Av ν} {un:List Rn} (f:Frm un):Frm (payW c un):=by
 unfold payW
 split
 ·exact Ff _ _ f.pw
 ·exact Zw _ (Ff _ _ f.pw)
theorem GR {c:Av ν} {un:List Rn} (f:Frm un) {n:Int} (h:inR (payW c un) n=true):inR un n=true:=by
 unfold payW at h
 split at h
 ·rw[cutW_in,zAp] at h
  exact h.1
 ·rw[Xl (Ff _ _ f.pw),zAp,cutW_in,zAp] at h
  exact h.1.1
theorem leftS_frm:∀ {cs:List (Av ν)} {un:List Rn},Frm un->Frm (leftS cs un)
 | [],_,f=>f
 | c::cs,un,f=>leftS_frm (cs:=cs) (outW_frm f (payW_frm f))
theorem leftS_sub:∀ {cs:List (Av ν)} {un:List Rn} {n:Int},Frm un->inR (leftS cs un) n=true->inR un n=true
 | [],_,_,_,h=>h
 | c::cs,un,n,f,h=>by
  have:=leftS_sub (cs:=cs) (outW_frm f (payW_frm f)) h;rw[outW_in (payW_frm f),zAp] at this;exact this.1
theorem paidS_in:∀ {cs:List (Av ν)} {un:List Rn} {n:Int},Frm un->(F3 (paidS cs un) n↔inR un n=true/\inR (leftS cs un) n=false)
 | [],un,n,f=>by
  constructor
  ·rintro ⟨s,hs,_⟩
   cases hs
  ·rintro ⟨h1,h2⟩
   have h2':inR un n=false:=h2;rw[h1] at h2';cases h2'
 | c::cs,un,n,f=>by
  have fo:=outW_frm f (payW_frm (c:=c) f);unfold paidS leftS;rw[Yl,Qf,paidS_in (cs:=cs) fo,outW_in (payW_frm f),zAp,zBd];constructor
  ·rintro (h | ⟨⟨h1,h2⟩,h3⟩)
   ·refine⟨GR f h,?_⟩
    cases z:inR (leftS cs (outW un (payW c un))) n with
    | false=>rfl
    | true=>
     have:=leftS_sub fo z;rw[outW_in (payW_frm f),zAp,zBd] at this;rw[h] at this;cases this.2
   ·exact⟨h1,h3⟩
  ·rintro ⟨h1,h2⟩
   cases z:inR (payW c un) n with
   | true=>exact .inl rfl
   | false=>exact .inr ⟨⟨h1,rfl⟩,h2⟩
theorem paidS_key:∀ {cs:List (Av ν)} {un:List Rn} {s:Sx ν},s∈paidS cs un->s.2.2.2 = -1/\s.2.2.1∈cs.map (·.1)
 | [],_,_,h=>nomatch h
 | c::cs,un,s,h=>by
  unfold paidS at h;rcases zAA.mp h with z | z
  ·obtain⟨p,_,rfl⟩:=zAy.mp z
   exact⟨rfl,zAj⟩
  ·obtain⟨a,b⟩:=paidS_key z
   exact⟨a,zAg _ b⟩
theorem Vt:∀ {cs:List (Av ν)} {un:List Rn},Frm un->(cs.map (·.1)).Nodup->Sep (paidS cs un)
 | [],_,_,_=>Sep.nil
 | c::cs,un,f,nd=>by
  rw[zAN,zAT] at nd;have fo:=outW_frm f (payW_frm (c:=c) f);unfold paidS;refine Wv (W3 (payW_frm f)) (Vt fo nd.2) (fun n h1 h2=>?_) (fun s hs t ht _ e=>?_)
  ·rw[Qf] at h1
   rw[paidS_in fo,outW_in (payW_frm f),zAp,zBd] at h2;rw[h1] at h2;cases h2.1.2
  ·obtain⟨p,_,rfl⟩:=zAy.mp hs
   have:=(paidS_key ht).2;rw[<- e] at this;exact nd.1 this
theorem Ls (nm : ν) (g:Int->Int) (p:Tr3) (ps:List Tr3) (un:List Rn):borneS nm g (p::ps) un=tag nm (g p.2.2) (cutW un p.1 p.2.1)++borneS nm g ps un:=by
 unfold borneS;rw[zAN,zBy]
theorem IX {f:Int->Int}:∀ {ps:List Tr3} {a:Int} {lk:Option Int} {e:Int},Ch f a lk ps e->a<=e
 | [],a,lk,e,h=>by
  have h':a=e:=h
  lia
 | (l,h,k)::r,a,lk,e,⟨a1,a2,a3,a4,a5⟩=>by
  have:=IX a5
  lia
theorem Ng {f:Int->Int} {nm : ν} {g:Int->Int} {un:List Rn} {n:Int}:∀ {ps:List Tr3} {a:Int} {lk:Option Int} {e:Int},Ch f a lk ps e->(F3 (borneS nm g ps un) n↔inR un n=true/\a<=n/\n<e)
 | [],a,lk,e,h=>by
  have h':a=e:=h;constructor
  ·rintro ⟨s,hs,_⟩
   cases hs
  ·rintro ⟨_,h1,h2⟩
   lia
 | (l,h,k)::r,a,lk,e,⟨a1,a2,a3,a4,a5⟩=>by
  have le:=IX a5;rw[Ls,Yl,Qf,Ng a5,cutW_in,zAp,zAp,decide_eq_true_eq,decide_eq_true_eq]
  dsimp only
  constructor
  ·rintro (⟨h1,h2,h3⟩ | ⟨h1,h2,h3⟩)
   ·exact⟨h1,by lia,by lia⟩
   ·exact⟨h1,by lia,h3⟩
  ·rintro ⟨h1,h2,h3⟩
   by_cases c:n<h
   ·exact .inl ⟨h1,by lia,c⟩
   ·exact .inr ⟨h1,by lia,h3⟩
theorem borne_mem {nm : ν} {g:Int->Int} {un:List Rn} {s:Sx ν}:∀ {ps:List Tr3},s∈borneS nm g ps un->∃ p∈ps,s.2.2=(nm,g p.2.2)/\∃ q∈cutW un p.1 p.2.1,s.1=q.1/\s.2.1=q.2
 | [],h=>nomatch h
 | p::ps,h=>by
  rw[Ls] at h;rcases zAA.mp h with z | z
  ·obtain⟨q,hq,rfl⟩:=zAy.mp z
   exact⟨p,zAj,rfl,q,hq,rfl,rfl⟩
  ·obtain⟨p',h1,h2⟩:=borne_mem z
   exact⟨p',zAg _ h1,h2⟩
theorem cutW_bd {un:List Rn} {lo hi:Int} {q:Rn} (h:q∈cutW un lo hi):lo<=q.1/\q.2<=hi/\q.1<q.2:=by
 unfold cutW at h;obtain⟨h1,h2⟩:=zBr.mp h;obtain⟨p,_,rfl⟩:=zAy.mp h1;have:=of_decide_eq_true h2;unfold cutM at this ⊢
 dsimp only at this ⊢
 refine⟨?_,?_,this⟩
 ·split <;> lia
 ·split <;> lia
theorem Vy {f:Int->Int} {nm : ν} {g:Int->Int} {un:List Rn} (fu:Frm un):∀ {ps:List Tr3} {a:Int} {lk:Option Int} {e:Int},Ch f a lk ps e->(∀ p∈ps,∀ q∈ps,g p.2.2=g q.2.2->p.2.2=q.2.2)->Sep (borneS nm g ps un)
 | [],_,_,_,_,_=>Sep.nil
 | (l,h,k)::r,a,lk,e,⟨a1,a2,a3,a4,a5⟩,gi=>by
  rw[Ls];refine Wv (W3 (Ff _ _ fu.pw)) (Vy fu a5 fun p hp q hq=>gi p (zAg _ hp) q (zAg _ hq)) (fun n h1 h2=>?_) (fun s hs t ht tc e'=>?_)
  ·rw[Qf,cutW_in,zAp,zAp,decide_eq_true_eq,decide_eq_true_eq] at h1
   rw[Ng a5] at h2;have:=h1.2.2
   dsimp only at this
   lia
  ·obtain⟨q,hq,rfl⟩:=zAy.mp hs
   obtain⟨b1,b2,b3⟩:=cutW_bd hq
   dsimp only at b1 b2
   obtain⟨p,hp,ek,q',hq',e1,e2⟩:=borne_mem ht;obtain⟨c1,c2,c3⟩:=cutW_bd hq';have nx:∀ {ps:List Tr3} {b:Int} {lk:Option Int} {e:Int},Ch f b lk ps e->∀ p∈ps,b<=p.1/\(p.1=b->lk≠some p.2.2):=by
    intro ps
    induction ps with
    | nil=>intro b lk e _ p hp; cases hp
    | cons x ps ih=>
     obtain⟨l',h',k'⟩:=x;rintro b lk e ⟨d1,d2,d3,d4,d5⟩ p hp;rcases zAo.mp hp with z | z
     ·subst z
      exact⟨by show b<=l'; lia,fun _=>d3⟩
     ·have:=(ih d5 p z).1
      exact⟨by lia,fun y=>by lia⟩
   obtain⟨n1,n2⟩:=nx a5 p hp;have ek':g k=g p.2.2:=by
    have:=congrArg (fun z : ν × Int=>z.2) (e'.trans ek);exact this
   have kk:=gi (l,h,k) zAj p (zAg _ hp) ek';have pe:p.1=h:=by
    rcases tc with z | z
    ·have z':q.2=t.1:=z
     lia
    ·have z':t.2.1=q.1:=z
     lia
   exact n2 pe (by rw[<- kk])
def allS (cs:List (Av ν)) (nm : ν) (g:Int->Int) (parts:List Tr3) (c:Int):List (Sx ν):=paidS cs [(0,c)]++borneS nm g parts (leftS cs [(0,c)])
theorem frm_one {c:Int} (h:0<c):Frm [((0:Int),c)]:=⟨fun p hp=>by rw[zAk.mp hp]; exact h,List.pairwise_singleton _ _⟩
theorem in_one {c n:Int}:inR [((0:Int),c)] n=true↔0<=n/\n<c:=by
 rw[inR_iff];constructor
 ·rintro ⟨p,hp,h⟩
  rw[zAk.mp hp] at h;exact h
 ·intro h
  exact⟨_,zAk.mpr rfl,h⟩
theorem all_in {cs:List (Av ν)} {nm : ν} {g f:Int->Int} {parts:List Tr3} {c n:Int} (c0:0<c) (ch:Ch f 0 none parts c):F3 (allS cs nm g parts c) n↔0<=n/\n<c:=by
 unfold allS;rw[Yl,paidS_in (frm_one c0),Ng ch,in_one];constructor
 ·rintro (h | h)
  ·exact h.1
  ·exact h.2
 ·intro h
  cases z:inR (leftS cs [(0,c)]) n with
  | false=>exact .inl ⟨h,rfl⟩
  | true=>exact .inr ⟨rfl,h⟩
theorem all_sep {cs:List (Av ν)} {nm : ν} {g f:Int->Int} {parts:List Tr3} {c:Int} (c0:0<c) (nd:(cs.map (·.1)).Nodup) (ch:Ch f 0 none parts c) (gi:∀ p∈parts,∀ q∈parts,g p.2.2=g q.2.2->p.2.2=q.2.2)
  (gn:∀ p∈parts,g p.2.2 = -1->∀ n,p.1<=n->n<p.2.1->inR (leftS cs [(0,c)]) n=false):Sep (allS cs nm g parts c):=by
 unfold allS;have fl:Frm (leftS cs [((0:Int),c)]):=leftS_frm (frm_one c0);refine Wv (Vt (frm_one c0) nd) (Vy fl ch gi) (fun n h1 h2=>?_) (fun s hs t ht tc e=>?_)
 ·rw[paidS_in (frm_one c0)] at h1
  rw[Ng ch] at h2;rw[h1.2] at h2;cases h2.1
 ·obtain⟨p,hp,ek,q,hq,e1,e2⟩:=borne_mem ht
  obtain⟨c1,c2,c3⟩:=cutW_bd hq;have k1:=(paidS_key hs).1;have k2:g p.2.2 = -1:=by
   have:=congrArg (fun z : ν × Int=>z.2) (e.trans ek);rw[<- k1];exact this.symm
  have i1:=gn p hp k2 q.1 c1 (by lia);have i2:inR (cutW (leftS cs [((0:Int),c)]) p.1 p.2.1) q.1=true:=inR_iff.mpr ⟨q,hq,Int.le_refl _,c3⟩;rw[cutW_in,i1] at i2;cases i2
theorem Sep.starts {S:List (Sx ν)} (h:Sep S):(S.map (·.1)).Nodup:=by
 rw[zBt,zBI];refine h.pw.imp_of_mem fun {s t} hs ht a e=>?_;have l1:=h.lt s hs;have l2:=h.lt t ht;rcases a.1 with z | z <;> lia
theorem Sep.perm {S T:List (Sx ν)} (h:Sep S) (p:T.Perm S):Sep T:=⟨fun s hs=>h.lt s (p.mem_iff.mp hs),(p.pairwise_iff fun h=>h.symm).mpr h.pw⟩
theorem inS_perm {S T:List (Sx ν)} (p:T.Perm S) {n:Int}:F3 T n↔F3 S n:=by
 unfold F3;constructor
 ·rintro ⟨s,hs,h⟩
  exact⟨s,p.mem_iff.mp hs,h⟩
 ·rintro ⟨s,hs,h⟩
  exact⟨s,p.mem_iff.mpr hs,h⟩
def FormS:Int->Option (ν × Int)->List (Sx ν)->Int->Prop
 | a,_,[],c=>a=c
 | a,lk,s::r,c=>s.1=a/\s.1<s.2.1/\lk≠some s.2.2/\FormS s.2.1 (some s.2.2) r c
theorem form_of:∀ {S:List (Sx ν)} {a c:Int} {lk:Option (ν × Int)},a<=c->Sep S->S.Pairwise (fun s t=>s.1<t.1)->(∀ n,F3 S n↔a<=n/\n<c)->(∀ s∈S,s.1=a->lk≠some s.2.2)->FormS a lk S c
 | [],a,c,lk,ac,_,_,rg,_=>by
  show a=c;by_cases z:a=c
  ·exact z
  ·obtain⟨s,hs,_⟩:=(rg a).mpr ⟨Int.le_refl _,by lia⟩
   cases hs
 | s::r,a,c,lk,ac,sp,so,rg,lk'=>by
  have l1:=sp.lt s zAj;have so':=zAJ.mp so;have pw':=zAJ.mp sp.pw;have s1:=(rg s.1).mp ⟨s,zAj,Int.le_refl _,l1⟩;have sa:s.1=a:=by
   obtain⟨t,ht,t1,t2⟩:=(rg a).mpr ⟨Int.le_refl _,by lia⟩;rcases zAo.mp ht with z | z
   ·rw[z] at t1; lia
   ·have:=so'.1 t z; lia
  have s2:=(rg (s.2.1-1)).mp ⟨s,zAj,by lia,by lia⟩;have beh:∀ t∈r,s.2.1<=t.1:=fun t ht=>by
   have l2:=sp.lt t (zAg _ ht);have:=so'.1 t ht;rcases (pw'.1 t ht).1 with z | z <;> lia
  refine⟨sa,l1,lk' s zAj sa,form_of (by lia) ⟨fun t ht=>sp.lt t (zAg _ ht),pw'.2⟩ so'.2 (fun n=>?_) (fun t ht e z=>?_)⟩
  ·constructor
   ·rintro ⟨t,ht,t1,t2⟩
    have:=beh t ht;exact⟨by lia,((rg n).mp ⟨t,zAg _ ht,t1,t2⟩).2⟩
   ·rintro ⟨n1,n2⟩
    obtain⟨t,ht,t1,t2⟩:=(rg n).mpr ⟨by lia,n2⟩;rcases zAo.mp ht with y | y
    ·rw[y] at t2; lia
    ·exact⟨t,y,t1,t2⟩
  ·exact (pw'.1 t ht).2 (.inl e.symm) (Option.some.inj z)
def EndsIn (B:List Int) (ps:List Rn):Prop:=∀ p∈ps,p.1∈B/\p.2∈B
theorem Z9 {B:List Int} {ps:List Rn} {lo hi:Int} (h:EndsIn B ps) (h1:lo∈B) (h2:hi∈B):EndsIn B (cutW ps lo hi):=fun q hq=>by
 unfold cutW at hq;obtain⟨p,hp,rfl⟩:=zAy.mp (zBr.mp hq).1;have:=h p hp;unfold cutM
 dsimp only
 refine⟨?_,?_⟩
 ·split
  ·exact h1
  ·exact this.1
 ·split
  ·exact h2
  ·exact this.2
theorem Wj:∀ {ps:List Rn} (n:Int),(∀ p∈ps,p.1<p.2)->∃ T:Int,∀ B,EndsIn B ps->EndsIn (T::B) (lowW ps n)
 | [],n,_=>⟨0,fun B _ p hp=>nomatch hp⟩
 | p::ps,n,lt=>by
  by_cases c:0<n/\p.1+n<p.2
  ·refine⟨p.1+n,fun B h q hq=>?_⟩
   rw[lowW_cons,if_pos c.1,if_pos c.2,We (fun q hq=>lt q (zAg _ hq)) (by lia),zAY] at hq;rw[zAk.mp hq];exact⟨zAg _ (h p zAj).1,zAj⟩
  ·obtain⟨T,hT⟩:=Wj (ps:=ps) (n-(p.2-p.1)) fun q hq=>lt q (zAg _ hq)
   refine⟨T,fun B h q hq=>?_⟩;rw[lowW_cons] at hq;rcases zAA.mp hq with z | z
   ·by_cases c0:0<n
    ·rw[if_pos c0,if_neg (fun y=>c ⟨c0,y⟩)] at z
     rw[zAk.mp z];have:=h p zAj;exact⟨zAg _ this.1,zAg _ this.2⟩
    ·rw[if_neg c0] at z
     cases z
   ·exact hT B (fun q hq=>h q (zAg _ hq)) q z
theorem Rp {B:List Int} {e:Int} (he:e∈B):∀ {qs:List Rn} {b:Int},b∈B->EndsIn B qs->EndsIn B (leftW e b qs)
 | [],b,hb,_,q,hq=>by
  rw[leftW_nil] at hq
  split at hq
  ·rw[zAk.mp hq]
   exact⟨hb,he⟩
  ·cases hq
 | x::qs,b,hb,h,q,hq=>by
  have hx:=h x zAj;rw[leftW_cons] at hq;rcases zAA.mp hq with z | z
  ·split at z
   ·rw[zAk.mp z]
    refine⟨hb,?_⟩;show minI x.1 e∈B;unfold minI
    split
    ·exact he
    ·exact hx.1
   ·cases z
  ·refine Rp he (qs:=qs) (b:=maxI b x.2) ?_ (fun q hq=>h q (zAg _ hq)) q z
   unfold maxI
   split
   ·exact hx.2
   ·exact hb
theorem Z7 {B:List Int} {ps qs:List Rn} (h:EndsIn B ps) (g:EndsIn B qs):EndsIn B (outW ps qs):=fun q hq=>by
 unfold outW at hq;obtain⟨l,hl,h2⟩:=zCc.mp hq;obtain⟨p,hp,rfl⟩:=zAy.mp hl;exact Rp (h p hp).2 (h p hp).1 g q h2
theorem EndsIn.mono {B B':List Int} {ps:List Rn} (h:EndsIn B ps) (s:∀ x∈B,x∈B'):EndsIn B' ps:=fun p hp=>⟨s _ (h p hp).1,s _ (h p hp).2⟩
theorem Y3 (c:Av ν) {B:List Int} {un:List Rn} (f:Frm un) (h:EndsIn B un):∃ T,EndsIn (T::c.2.1.1::c.2.1.2::B) (payW c un):=by
 have h':EndsIn (c.2.1.1::c.2.1.2::B) (cutW un c.2.1.1 c.2.1.2):=Z9 (h.mono fun x hx=>by simp [hx]) (by simp) (by simp);unfold payW
 split
 ·exact⟨0,h'.mono fun x hx=>zAg _ hx⟩
 ·obtain⟨T,hT⟩:=Wj (ps:=cutW un c.2.1.1 c.2.1.2) (by assumption) (Ff _ _ f.pw).lt
  exact⟨T,hT _ h'⟩
theorem paid_ends:∀ {cs:List (Av ν)} {B:List Int} {un:List Rn},Frm un->EndsIn B un->∃ B',B'.length=B.length+3*cs.length/\(∀ x∈B,x∈B')/\EndsIn B' (leftS cs un)/\∀ s∈paidS cs un,s.1∈B'
 | [],B,un,f,h=>⟨B,rfl,fun _ z=>z,h,fun s z=>nomatch z⟩
 | c::cs,B,un,f,h=>by
  obtain⟨T,hT⟩:=Y3 c f h;have h2:EndsIn (T::c.2.1.1::c.2.1.2::B) un:=h.mono fun x hx=>by simp [hx]
  obtain⟨B',b1,b2,b3,b4⟩:=paid_ends (cs:=cs) (outW_frm f (payW_frm (c:=c) f)) (Z7 h2 hT);refine⟨B',by rw[b1]; simp only [zAf]; lia,fun x hx=>b2 x (by simp [hx]),b3,fun s hs=>?_⟩;unfold paidS at hs;rcases zAA.mp hs with z | z
  ·obtain⟨p,hp,rfl⟩:=zAy.mp z
   exact b2 _ (hT p hp).1
  ·exact b4 s z
theorem few_of {l m:List Int} (nd:l.Nodup) (h:∀ x∈l,x∈m):l.length<=m.length:=by
 induction l generalizing m with
 | nil=>exact zAB _
 | cons x l ih=>
  rw[zAT] at nd;have hx:=h x zAj;have:=ih (m:=m.erase x) nd.2 fun y hy=>(zCb (fun z=>nd.1 (by rw[<- z]; exact hy))).mpr (h y (zAg _ hy));rw[zBJ hx] at this;have:0<m.length:=zBQ hx;rw[zAf]
  lia
theorem O4 {ps:List Rn} {lo hi:Int} {q:Rn} (h:q∈cutW ps lo hi):q.1=lo\/∃ p∈ps,q.1=p.1:=by
 unfold cutW at h;obtain⟨p,hp,rfl⟩:=zAy.mp (zBr.mp h).1;unfold cutM
 dsimp only
 split
 ·exact .inl rfl
 ·exact .inr ⟨p,hp,rfl⟩
theorem all_len {cs:List (Av ν)} {nm : ν} {g f:Int->Int} {parts:List Tr3} {c:Int} (c0:0<c) (sp:Sep (allS cs nm g parts c)):(allS cs nm g parts c).length<=2+3*cs.length+parts.length:=by
 obtain⟨B,b1,b2,b3,b4⟩:=paid_ends (cs:=cs) (B:=[0,c]) (frm_one c0) (fun p hp=>by rw[zAk.mp hp]; simp);have:=few_of (m:=parts.map (·.1)++B) sp.starts fun x hx=>?_
 ·rw[zAb,zAm,zAb,b1] at this
  simp only [zAf,zBL] at this
  lia
 ·obtain⟨s,hs,rfl⟩:=zAy.mp hx
  unfold allS at hs;rcases zAA.mp hs with z | z
  ·exact zAA.mpr (.inr (b4 s z))
  ·obtain⟨p,hp,_,q,hq,e1,_⟩:=borne_mem z
   rw[e1];rcases O4 hq with y | ⟨p',hp',y⟩
   ·rw[y]
    exact zAA.mpr (.inl (zAy.mpr ⟨p,hp,rfl⟩))
   ·rw[y]
    exact zAA.mpr (.inr (b3 p' hp').1)
end
end CRT
namespace CR
theorem Ln:∀ {ps:List Rn},Frm ps->∀ n:Int,below ps (n+1)=below ps n+if inR ps n=true then 1 else 0
 | [],_,n=>by unfold below inR; simp
 | p::ps,f,n=>by
  have f':Frm ps:=⟨fun q hq=>f.lt q (zAg _ hq),(zAJ.mp f.pw).2⟩;have ih:=Ln f' n;rw[Go,Go,ih];have lt:=f.lt p zAj;have ci:inR (p::ps) n=true↔(p.1<=n/\n<p.2)\/inR ps n=true:=by
   rw[inR_iff,inR_iff];constructor
   ·rintro ⟨q,hq,h⟩
    rcases zAo.mp hq with e | e
    ·rw[e] at h; exact .inl h
    ·exact .inr ⟨q,e,h⟩
   ·rintro (h | ⟨q,hq,h⟩)
    ·exact⟨p,zAj,h⟩
    ·exact⟨q,zAg _ hq,h⟩
  by_cases c:p.1<=n/\n<p.2
  ·have no:¬ inR ps n=true:=fun h=>by
    obtain⟨q,hq,h1,h2⟩:=inR_iff.mp h;have:=(zAJ.mp f.pw).1 q hq
    lia
   rw[if_neg no,if_pos (ci.mpr (.inl c)),if_pos (show p.1<n+1 by lia)];by_cases e:p.1<n
   ·rw[if_pos e,if_pos (show n<p.2 by lia)]
    split <;> lia
   ·rw[if_neg e]
    split <;> lia
  ·have e:(if inR (p::ps) n=true then (1:Int) else 0)=if inR ps n=true then 1 else 0:=by
    by_cases z:inR ps n=true
    ·rw[if_pos z,if_pos (ci.mpr (.inr z))]
    ·rw[if_neg z,if_neg fun h=>(ci.mp h).elim c z]
   rw[e];have:(if p.1<n+1 then (if n+1<p.2 then n+1 else p.2)-p.1 else 0)=if p.1<n then (if n<p.2 then n else p.2)-p.1 else 0:=by
    by_cases h:p.1<n
    ·rw[if_pos h,if_pos (show p.1<n+1 by lia)]
     split <;> split <;> lia
    ·rw[if_neg h]
     by_cases h':p.1<n+1
     ·rw[if_pos h']
      split <;> lia
     ·rw[if_neg h']
   lia
def Pos (ps:List Rn):Prop:=∀ n,inR ps n=true->0<=n
theorem R5 {ps:List Rn} (f:Frm ps) (h:Pos ps):below ps 0=0:=Lb fun p hp=>h p.1 (inR_iff.mpr ⟨p,hp,Int.le_refl _,f.lt p hp⟩)
theorem A5 {ps qs:List Rn} (f:Frm ps) (g:Frm qs) (hp:Pos ps) (hq:Pos qs):∀ k:Nat,(∀ n,0<=n->n<(k:Int)->inR ps n=true->inR qs n=true)->below ps (k:Int)<=below qs (k:Int)
 | 0,_=>by rw[show ((0:Nat):Int)=0 from rfl,R5 f hp,R5 g hq]; exact Int.le_refl _
 | k+1,h=>by
  have ih:=A5 f g hp hq k fun n n0 n1=>h n n0 (by lia);rw[show ((k+1:Nat):Int)=(k:Int)+1 by lia,Ln f,Ln g];have hk:=h (k:Int) (by lia) (by lia);by_cases z:inR ps (k:Int)=true
  ·rw[if_pos z,if_pos (hk z)]; lia
  ·rw[if_neg z]; split <;> lia
theorem F5 {ps qs:List Rn} (f:Frm ps) (g:Frm qs) (hp:Pos ps) (hq:Pos qs) {n:Int} (n0:0<=n) (h:∀ k,0<=k->k<n->inR ps k=true->inR qs k=true):below ps n<=below qs n:=by
 obtain⟨k,rfl⟩:=Int.eq_ofNat_of_zero_le n0;exact A5 f g hp hq k h
theorem Pos.sub {ps qs:List Rn} (h:Pos ps) (s:∀ n,inR qs n=true->inR ps n=true):Pos qs:=fun n z=>h n (s n z)
theorem pos_one (c:Int):Pos [((0:Int),c)]:=fun n z=>by
 obtain⟨p,hp,h1,_⟩:=inR_iff.mp z;rw[zAk.mp hp] at h1;exact h1
end CR
namespace CRT
open CR CRP
section
variable {ν : Type}
theorem DF {c:Av ν} {un:List Rn} (f:Frm un) (n:Int):inR (payW c un) n=(inR un n&&(decide (c.2.1.1<=n)&&decide (n<c.2.1.2))&&match c.2.2 with | none=>true | some m=>decide (below (cutW un c.2.1.1 c.2.1.2) n<m)):=by
 obtain⟨nm,W,r⟩:=c;cases r with
 | none=>
  show inR (cutW un W.1 W.2) n=(inR un n&&(decide (W.1<=n)&&decide (n<W.2))&&true);rw[cutW_in,Bool.and_true]
 | some m=>
  show inR (lowW (cutW un W.1 W.2) m) n=(inR un n&&(decide (W.1<=n)&&decide (n<W.2))&&decide (below (cutW un W.1 W.2) n<m));rw[Xl (Ff _ _ f.pw),cutW_in]
theorem Yh {un qs:List Rn} (fq:Frm qs) (h:Pos un):Pos (outW un qs):=h.sub fun n z=>by
 rw[outW_in fq,zAp] at z;exact z.1
theorem Q8 {un:List Rn} {lo hi:Int} (h:Pos un):Pos (cutW un lo hi):=h.sub fun n z=>by
 rw[cutW_in,zAp] at z;exact z.1
inductive More:List (Av ν)->List (Av ν)->Prop
 | nil:More [] []
 | add {a:Av ν} {as bs:List (Av ν)}:More as bs->More as (a::bs)
 | same {a b:Av ν} {as bs:List (Av ν)}:a.2.1=b.2.1->(∀ m,b.2.2=some m->∃ m',a.2.2=some m'/\m'<=m)->More as bs->More (a::as) (b::bs)
theorem more_left {as bs:List (Av ν)} (m:More as bs):∀ {un vn:List Rn},Frm un->Frm vn->Pos un->Pos vn->(∀ n,inR vn n=true->inR un n=true)->∀ n,inR (leftS bs vn) n=true->inR (leftS as un) n=true:=by
 induction m with
 | nil=>intro un vn _ _ _ _ h n z; exact h n z
 | @add a as bs m ih=>
  intro un vn f g pu pv h n z;exact ih f (outW_frm g (payW_frm (c:=a) g)) pu (Yh (payW_frm g) pv) (fun k y=>by
   rw[outW_in (payW_frm g),zAp] at y;exact h k y.1) n z
 | @same a b as bs e r m ih=>
  intro un vn f g pu pv h n z;refine ih (outW_frm f (payW_frm (c:=a) f)) (outW_frm g (payW_frm (c:=b) g)) (Yh (payW_frm f) pu) (Yh (payW_frm g) pv) (fun k y=>?_) n z;rw[outW_in (payW_frm g),zAp,zBd] at y;rw[outW_in (payW_frm f),zAp,zBd];refine⟨h k y.1,?_⟩;cases c:inR (payW a un) k with
  | false=>rfl
  | true=>
   exfalso;rw[DF f,zAp,zAp] at c;have y2:=y.2;rw[DF g,y.1,Bool.true_and,<- e,c.1.2,Bool.true_and] at y2;cases rb:b.2.2 with
   | none=>rw[rb] at y2; cases y2
   | some mb=>
    rw[rb] at y2;obtain⟨ma,ra,le⟩:=r mb rb;have c2:=c.2;rw[ra] at c2;have c3:below (cutW un a.2.1.1 a.2.1.2) k<ma:=of_decide_eq_true c2;have y3:¬ below (cutW vn a.2.1.1 a.2.1.2) k<mb:=of_decide_eq_false y2;have k0:0<=k:=pv k y.1;have:=F5 (Ff a.2.1.1 a.2.1.2 g.pw) (Ff a.2.1.1 a.2.1.2 f.pw) (Q8 pv) (Q8 pu) k0 fun j j0 j1 w=>by
     rw[cutW_in,zAp] at w ⊢;exact⟨h j w.1,w.2⟩
    omega
end
end CRT
namespace CRL
open PySem L2
def top (i:Nat):Stmt:=PySem.Challenge.pw_coverroll_k42_whole_a_cover_more.main.body.getD i (.Pass ⟨0,0,0,0⟩)
abbrev Lw:Stmt:=top 8
abbrev Ec:Stmt:=top 20
abbrev Oh:Stmt:=top 21
abbrev Ka:Stmt:=top 22
abbrev Ny:Stmt:=top 23
abbrev Fc:Stmt:=top 26
abbrev Ol:Stmt:=top 27
abbrev Et:Stmt:=Bt (top 28) 0
abbrev Iy:Stmt:=Bt (top 28) 1
abbrev Hj:Stmt:=Bt (top 28) 2
abbrev Hn:Stmt:=Bt (top 28) 3
abbrev Gp:Stmt:=Bt (top 29) 0
abbrev Lj:Stmt:=Bt (top 29) 1
abbrev Fa:Stmt:=Bt (top 30) 0
abbrev Ix:Stmt:=Bt (top 30) 1
abbrev Fd:Stmt:=Bt (top 31) 0
abbrev Il:Stmt:=Bt (top 31) 1
abbrev Jg:Stmt:=top 33
abbrev Jw:Stmt:=top 34
abbrev Hl:Stmt:=top 35
abbrev Nq:Stmt:=top 36
abbrev Iw:Stmt:=top 38
abbrev La:Stmt:=top 39
abbrev Ju:Stmt:=top 40
abbrev Gd:Stmt:=top 41
abbrev Kh:Stmt:=top 42
abbrev Fm:Stmt:=Bt (top 45) 0
abbrev Er:Stmt:=Bt (top 47) 0
abbrev Ei:Stmt:=Bt (top 48) 0
abbrev Fl:Stmt:=Bt (top 48) 1
abbrev Eh:Stmt:=Bt (top 49) 0
abbrev Fn:Stmt:=Bt (top 49) 1
abbrev En:Stmt:=Bt (top 50) 0
abbrev Gq:Stmt:=Bt (top 50) 1
abbrev Fo:Stmt:=Bt (top 51) 0
abbrev Iu:Stmt:=Bt (top 51) 1
abbrev Gr:Stmt:=Bt (top 52) 0
abbrev Kc:Stmt:=Bt (top 52) 1
abbrev Gn:Stmt:=Bt (top 53) 0
abbrev Jo:Stmt:=Bt (top 53) 1
abbrev Fs:Stmt:=Bt (top 54) 0
abbrev Jd:Stmt:=Bt (top 54) 1
abbrev Eo:Stmt:=Bt (top 56) 0
abbrev Hm:Stmt:=Bt (top 56) 1
abbrev Ij:Stmt:=Bt (top 56) 2
abbrev Ho:Stmt:=top 60
abbrev Ma:Stmt:=top 61
abbrev Ss:Stmt:=top 62
abbrev Fq:Stmt:=top 63
abbrev Xp:Stmt:=top 64
abbrev Fi:Stmt:=Bt (top 65) 0
abbrev Ge:Stmt:=top 69
abbrev Fk:Stmt:=top 70
abbrev Jr:Stmt:=top 71
abbrev Cf:Stmt:=Bt (top 72) 0
abbrev Jf:Stmt:=Bt (top 72) 1
abbrev Hx:Stmt:=Bt (top 72) 2
abbrev Gg:Stmt:=Bt (top 72) 3
abbrev Hq:Stmt:=Bt (top 72) 4
abbrev Je:Stmt:=Bt (top 72) 5
abbrev Jm:Stmt:=top 74
abbrev Jb:Stmt:=top 75
abbrev Hr:Stmt:=top 76
abbrev Ir:Stmt:=top 77
abbrev Hy:Stmt:=top 78
abbrev Io:Stmt:=top 79
abbrev Jx:Stmt:=top 80
abbrev Js:Stmt:=top 81
abbrev Ea:Stmt:=top 82
abbrev Hi:Stmt:=top 83
abbrev Jy:Stmt:=top 84
abbrev Hk:Stmt:=top 85
abbrev Le:Stmt:=top 86
abbrev Kb:Stmt:=top 87
abbrev Ez:Stmt:=top 88
abbrev Hw:Stmt:=top 89
abbrev Kd:Stmt:=top 90
abbrev Ip:Stmt:=top 91
abbrev Ht:Stmt:=top 92
abbrev Hh:Stmt:=top 93
abbrev Hs:Stmt:=top 94
abbrev Es:Stmt:=top 95
abbrev Sb:Stmt:=top 96
structure Txt (K:zAa) (mg:Str->Option Value):Prop where
 g_CAUSE:Mq mg "CAUSE" 4
 g_CENTS:Mq mg "CENTS" 5
 g_COVERED_ONE:JC mg "COVERED_ONE" "self"
 g_DAY:Mq mg "DAY" 1
 g_DAYS_OF_YEAR:Mq mg "DAYS_OF_YEAR" 365
 g_EVENT:Mq mg "EVENT" 2
 g_LETTERS:JC mg "LETTERS" "abcdefghijklmnopqrstuvwxyz"
 g_LONGEST_NAME:Mq mg "LONGEST_NAME" 8
 g_MOST_CENTS:Mq mg "MOST_CENTS" 999999999999
 g_MOST_CLAUSES:Mq mg "MOST_CLAUSES" 8
 g_MOST_COVERS:Mq mg "MOST_COVERS" 8
 g_MOST_PLACES:Mq mg "MOST_PLACES" 8
 g_MOST_TURNS:Mq mg "MOST_TURNS" 100
 g_NUMBER:Mq mg "NUMBER" 0
 g_THING:Mq mg "THING" 3
 n_bool:mg "bool" = none
 n_enumerate:mg "enumerate" = none
 n_int:mg "int" = none
 n_isinstance:mg "isinstance" = none
 n_len:mg "len" = none
 n_list:mg "list" = none
 n_max:mg "max" = none
 n_min:mg "min" = none
 n_range:mg "range" = none
 n_set:mg "set" = none
 n_sorted:mg "sorted" = none
 n_str:mg "str" = none
 n_sum:mg "sum" = none
 n_tuple:mg "tuple" = none
 n_zip:mg "zip" = none
 t_WAYS:NS K mg "WAYS" [.str "event",.str "thing",.str "year",.str "loss"]
structure Kl (K:zAa) (mg:Str->Option Value) (Ac Ah Ag Am Au Bc Ba At Ae Aw Al Aj Bg Ai Bd Aq:Addr):Prop where
 mg_Condition:mg "Condition" = some (.ref Ac)
 cl_Condition:Cls K Ac
 mg_CauseIs:mg "CauseIs" = some (.ref Ah)
 cl_CauseIs:Cls K Ah
 na_CauseIs_name:NoAttr K Ah "name"
 mg_ThingIs:mg "ThingIs" = some (.ref Ag)
 cl_ThingIs:Cls K Ag
 na_ThingIs_name:NoAttr K Ag "name"
 mg_DaysIn:mg "DaysIn" = some (.ref Am)
 cl_DaysIn:Cls K Am
 na_DaysIn_first:NoAttr K Am "first"
 na_DaysIn_last:NoAttr K Am "last"
 mg_Over:mg "Over" = some (.ref Au)
 cl_Over:Cls K Au
 na_Over_cents:NoAttr K Au "cents"
 mg_Not:mg "Not" = some (.ref Bc)
 cl_Not:Cls K Bc
 na_Not_part:NoAttr K Bc "part"
 mg_All:mg "All" = some (.ref Ba)
 cl_All:Cls K Ba
 na_All_several:NoAttr K Ba "several"
 mg_Some:mg "Some" = some (.ref At)
 cl_Some:Cls K At
 na_Some_several:NoAttr K At "several"
 mg_Clause:mg "Clause" = some (.ref Ae)
 cl_Clause:Cls K Ae
 na_Clause_by:NoAttr K Ae "by"
 ty_Clause:∀ {H:Hp} {a dx:Addr} {fs:List (Str×V)},H a=some (.ins Ae dx fs)->Gz K H (.ref a) (.ref Ae)
 mg_Own:mg "Own" = some (.ref Aw)
 cl_Own:Cls K Aw
 na_Own_cents:NoAttr K Aw "cents"
 na_Own_by:NoAttr K Aw "by"
 ty_Own:∀ {H:Hp} {a dx:Addr} {fs:List (Str×V)},H a=some (.ins Aw dx fs)->Gz K H (.ref a) (.ref Aw)
 mg_Layer:mg "Layer" = some (.ref Al)
 cl_Layer:Cls K Al
 na_Layer_first:NoAttr K Al "first"
 na_Layer_upto:NoAttr K Al "upto"
 na_Layer_by:NoAttr K Al "by"
 ty_Layer:∀ {H:Hp} {a dx:Addr} {fs:List (Str×V)},H a=some (.ins Al dx fs)->Gz K H (.ref a) (.ref Al)
 mg_Limit:mg "Limit" = some (.ref Aj)
 cl_Limit:Cls K Aj
 na_Limit_most:NoAttr K Aj "most"
 na_Limit_by:NoAttr K Aj "by"
 ty_Limit:∀ {H:Hp} {a dx:Addr} {fs:List (Str×V)},H a=some (.ins Aj dx fs)->Gz K H (.ref a) (.ref Aj)
 mg_Deal:mg "Deal" = some (.ref Bg)
 cl_Deal:Cls K Bg
 na_Deal_wheel:NoAttr K Bg "wheel"
 na_Deal_weights:NoAttr K Bg "weights"
 mg_Cover:mg "Cover" = some (.ref Ai)
 cl_Cover:Cls K Ai
 na_Cover_name:NoAttr K Ai "name"
 na_Cover_condition:NoAttr K Ai "condition"
 na_Cover_clauses:NoAttr K Ai "clauses"
 na_Cover_houses:NoAttr K Ai "houses"
 na_Cover_deal:NoAttr K Ai "deal"
 na_Cover_waits:NoAttr K Ai "waits"
 mg_Book:mg "Book" = some (.ref Bd)
 cl_Book:Cls K Bd
 na_Book_covers:NoAttr K Bd "covers"
 na_Book_asking:NoAttr K Bd "asking"
 mg_Counts:mg "Counts" = some (.ref Aq)
 cl_Counts:Cls K Aq
 na_Counts_kept:NoAttr K Aq "kept"
 kt_Clause_Limit:zAR K (.ref Ae) (.ref Aj)=some false
 kt_Own_Limit:zAR K (.ref Aw) (.ref Aj)=some false
 kt_Layer_Limit:zAR K (.ref Al) (.ref Aj)=some false
 kt_Limit_Limit:zAR K (.ref Aj) (.ref Aj)=some true
 nd:([Ac,Ah,Ag,Am,Au,Bc,Ba,At,Ae,Aw,Al,Aj,Bg,Ai,Bd,Aq]:List Addr).Nodup
theorem dT {c A B:Prop} [Decidable c] (h:c) (q:A):if decide c=true then A else B:=by rw[decide_eq_true h,if_pos rfl]; exact q
theorem dF {c A B:Prop} [Decidable c] (h:¬ c) (q:B):if decide c=true then A else B:=by rw[decide_eq_false h,if_neg zAl]; exact q
theorem nT {c A B:Prop} [Decidable c] (h:¬ c) (q:A):if (!decide c)=true then A else B:=by rw[decide_eq_false h]; exact q
theorem nF {c A B:Prop} [Decidable c] (h:c) (q:B):if (!decide c)=true then A else B:=by rw[decide_eq_true h]; exact q
theorem bT {c:Bool} {A B:Prop} (h:c=true) (q:A):if c=true then A else B:=by rw[if_pos h]; exact q
theorem bF {c:Bool} {A B:Prop} (h:c=false) (q:B):if c=true then A else B:=by rw[if_neg (by rw[h]; exact zAl)]; exact q
def DG:V->Bool
 | .int _=>true
 | _=>false
theorem Vs {K:zAa} {H:Hp} {x:V} {T:String} (h:Gz K H x (.type T)):∃ b1 b2,zAR K (.type T) (.type "int")=some b1/\zAR K (.type T) (.type "bool")=some b2/\DG x=(b1 && !b2):=by
 cases h with
 | non=>exact⟨false,false,by kernel_rfl,by kernel_rfl,rfl⟩
 | bl b=>exact⟨true,true,by kernel_rfl,by kernel_rfl,rfl⟩
 | int i=>exact⟨true,false,by kernel_rfl,by kernel_rfl,rfl⟩
 | str i=>exact⟨false,false,by kernel_rfl,by kernel_rfl,rfl⟩
 | flt i=>exact⟨false,false,by kernel_rfl,by kernel_rfl,rfl⟩
 | lst e=>exact⟨false,false,by kernel_rfl,by kernel_rfl,rfl⟩
 | frz e=>exact⟨false,false,by kernel_rfl,by kernel_rfl,rfl⟩
 | tup e=>exact⟨false,false,by kernel_rfl,by kernel_rfl,rfl⟩
 | dK e=>exact⟨false,false,by kernel_rfl,by kernel_rfl,rfl⟩
 | dT e=>exact⟨false,false,by kernel_rfl,by kernel_rfl,rfl⟩
theorem EZ {K:zAa}:zAR K (.type "list") (.type "list")=some true:=by kernel_rfl
def Ik (K:zAa):Sp:=fun vs H Q _=>∃ x T,vs=[x]/\Gz K H x (.type T)/\Q (.bl (DG x)) H
theorem JI {K:zAa}:zAR K (.type "tuple") (.type "tuple")=some true:=by kernel_rfl
def Oo (K:zAa):Sp:=fun vs H Q _=>∃ a ns,∃ k:Int,vs=[.ref a,.int k]/\SqL K H a (List.map V.int ns)/\0<=k/\ns.length<=63/\Q (.int (ns.getD k.toNat 0)) H
section
variable {P:Program} {w:World} {K:zAa} {mg:Str->Option Value} {base:Heap}
theorem Xs:Bb ["_law_script", "_law_k"] ["_law_script", "_law_k"] (As Jm):=by injections
theorem Yi {f:Addr} {fd:zCC} (F:Fun K "_law_cell" "_law_cell" Jm f fd) (T:Txt K mg):FnOk P w K mg base Cu 1 f fd ["_law_script", "_law_k"] (Oo K):=by
 have sc:=Xs;bv_omega
 ·obtain⟨_,_,_,rfl,_⟩:=h
  rfl
 obtain⟨a,ns,k,rfl,ha,h0,h63,q⟩:=h;refine⟨_,(Ad (Bv (Bk Fw (pv 1) (Bn By rfl T.n_len (show zCB _=some (.builtin "len") from rfl) (Aa (pv 0) Af)) (Bm _))
    (Ao (Be (Bh Bo (pv 0) (pv 1) (fun _ _=>rfl))))
    Bl)
   (Ao (Be Ak))),?_⟩
 have hl:(List.map V.int ns).length=ns.length:=zAb _;refine (vE rfl (vE rfl ⟨a,_,rfl,.inl ha,vF rfl rfl (vE rfl ?_)⟩));rw[hl];refine Su (fun c=>?_) (fun c=>?_)
 ·have c':k<(ns.length:Int):=of_decide_eq_true c
  exact (vE rfl (vE rfl ⟨a,_,_,_,rfl,rfl,ha,V8 h0 c',q⟩))
 ·have c':¬ k<(ns.length:Int):=of_decide_eq_false (zBc.mpr c)
  have e:ns.getD k.toNat 0=0:=by
   rw[zAs,zBU (by lia)];rfl
  rw[e] at q;exact q
theorem C7:Bb ["thing"] ["thing"] (As Lw):=by injections
theorem C6 {f:Addr} {fd:zCC} (F:Fun K "is_whole" "is_whole" Lw f fd) (T:Txt K mg):FnOk P w K mg base Cu 1 f fd ["thing"] (Ik K):=by
 have sc:=C7;bv_omega
 ·obtain⟨x,T,rfl,_⟩:=h
  rfl
 obtain⟨x,ty,rfl,hty,q⟩:=h;refine⟨_,(Ao (Be (Wk (Bn Ct rfl T.n_isinstance (show zCB _=some (.builtin "isinstance") from rfl) (Aa (pv 0) (Aa (Ky "int" rfl T.n_int rfl) Af))) (Xi (G3 (Bn Ct rfl T.n_isinstance (show zCB _=some (.builtin "isinstance") from rfl) (Aa (pv 0) (Aa (Ky "bool" rfl T.n_bool rfl) Af)))))))),?_⟩;obtain⟨b1,b2,k1,k2,e⟩:=Vs hty;rw[e] at q;refine (vE rfl ⟨_,_,_,_,_,rfl,Kx,hty,k1,_,rfl,?_⟩);cases b1 with
 | false=>exact q
 | true=>exact⟨_,rfl,_,_,_,_,_,rfl,Kx,hty,k2,_,rfl,q⟩
theorem Tx:Bb ["_law_found"] ["_law_found"] (As Jb):=by injections
theorem Ts {f:Addr} {fd:zCC} (F:Fun K "_law_whole" "_law_whole" Jb f fd) (T:Txt K mg):FnOk P w K mg base Cu 1 f fd ["_law_found"] (Ik K):=by
 have sc:=Tx;bv_omega
 ·obtain⟨x,T,rfl,_⟩:=h
  rfl
 obtain⟨x,ty,rfl,hty,q⟩:=h;refine⟨_,(Ao (Be (Wk (Bn Ct rfl T.n_isinstance (show zCB _=some (.builtin "isinstance") from rfl) (Aa (pv 0) (Aa (Ky "int" rfl T.n_int rfl) Af))) (Xi (G3 (Bn Ct rfl T.n_isinstance (show zCB _=some (.builtin "isinstance") from rfl) (Aa (pv 0) (Aa (Ky "bool" rfl T.n_bool rfl) Af)))))))),?_⟩;obtain⟨b1,b2,k1,k2,e⟩:=Vs hty;rw[e] at q;refine (vE rfl ⟨_,_,_,_,_,rfl,Kx,hty,k1,_,rfl,?_⟩);cases b1 with
 | false=>exact q
 | true=>exact⟨_,rfl,_,_,_,_,_,rfl,Kx,hty,k2,_,rfl,q⟩
def NG (m:Int):V->Bool
 | .int i=>decide (0<=i/\i<=m)
 | _=>false
def CD (K:zAa) (m:Int):Sp:=fun vs H Q _=>∃ x T,vs=[x]/\Gz K H x (.type T)/\Q (.bl (NG m x)) H
theorem Xu:Bb ["thing"] ["thing"] (As Ka):=by injections
theorem Yq {f:Addr} {fd:zCC} (F:Fun K "is_amount" "is_amount" Ka f fd) (T:Txt K mg) (Cis_whole:Cn P w K mg base 1 "is_whole" ["thing"] (Ik K)):FnOk P w K mg base Cu 2 f fd ["thing"] (CD K 999999999999):=by
 have sc:=Xu;bv_omega
 ·obtain⟨_,_,rfl,_⟩:=h
  rfl
 obtain⟨x,ty,rfl,hty,q⟩:=h;refine⟨_,(Ao (Be (Wk (Ax Cis_whole (hr.mono (by decide)) rfl (Aa (pv 0) Af)) (Xi (Rv Pa Pa Ak (pv 0) (Dk T.g_MOST_CENTS rfl)))))),?_⟩;refine (vE rfl ⟨_,_,rfl,hty,_,rfl,?_⟩);cases x with
 | int i=>
  refine Po (vE rfl (vF rfl rfl (vE rfl ?_)));by_cases c1:(0:Int)<=i
  ·refine dT c1 (vF rfl rfl ?_)
   show Q (.bl (decide (i<=999999999999))) H;have e:decide (0<=i/\i<=999999999999)=decide (i<=999999999999):=by
    by_cases c2:i<=999999999999
    ·rw[decide_eq_true c2,decide_eq_true ⟨c1,c2⟩]
    ·rw[decide_eq_false c2,decide_eq_false (fun y=>c2 y.2)]
   rw[<- e];exact q
  ·refine dF c1 ?_
   rw[show NG 999999999999 (.int i)=false from decide_eq_false (fun y=>c1 y.1)] at q;exact q
 | _=>exact Dy q
end
def Fj (c:Nat):Prop:=97<=c/\c<=122
instance:DecidablePred Fj:=fun c=>by unfold Fj; exact inferInstance
def Jq (l:List Nat):Prop:=∀ c∈l,Fj c
instance (l:List Nat):Decidable (Jq l):=by unfold Jq; exact inferInstance
def Qq (l:List Nat):Prop:=(1<=l.length/\l.length<=8)/\Jq l
instance (l:List Nat):Decidable (Qq l):=by unfold Qq; exact inferInstance
theorem let_in {c:Nat}:(c∈(Str.ofString "abcdefghijklmnopqrstuvwxyz").cps.toList)↔Fj c:=by
 have e:(Str.ofString "abcdefghijklmnopqrstuvwxyz").cps.toList=(zAI 26).map (97 + ·):=by ac_nf
 rw[e,zAy];unfold Fj;constructor
 ·rintro ⟨k,hk,rfl⟩
  have:=zBu.mp hk
  lia
 ·intro h
  exact⟨c-97,zBu.mpr (by lia),by lia⟩
def KR:V->Bool
 | .str _=>true
 | _=>false
def Pe:V->Bool
 | .str z=>decide (Qq z.cps.toList)
 | _=>false
def QT (x:V):Prop:=∀ z,x = .str z->z.length<=900
theorem GX {K:zAa} {H:Hp} {x:V} {T:String} (h:Gz K H x (.type T)):zAR K (.type T) (.type "str")=some (KR x):=by
 cases h with
 | non=>kernel_rfl
 | bl b=>kernel_rfl
 | int i=>kernel_rfl
 | str i=>kernel_rfl
 | flt i=>kernel_rfl
 | lst e=>kernel_rfl
 | frz e=>kernel_rfl
 | tup e=>kernel_rfl
 | dK e=>kernel_rfl
 | dT e=>kernel_rfl
def FP:Sp:=fun vs H Q _=>∃ l,vs=[.str (tx l)]/\Q (.bl (decide (Jq l))) H
def Xg (K:zAa):Sp:=fun vs H Q _=>∃ x T,vs=[x]/\Gz K H x (.type T)/\QT x/\Q (.bl (Pe x)) H
section
seal L2.PS L2.PSs L2.PE
variable {P:Program} {w:World} {K:zAa} {mg:Str->Option Value} {base:Heap}
theorem Jn:Bb ["text", "sign"] ["text"] (As Ec):=by injections
theorem Kf {f:Addr} {fd:zCC} (F:Fun K "has_letters_alone" "has_letters_alone" Ec f fd) (T:Txt K mg):FnOk P w K mg base Cu 1 f fd ["text"] FP:=by
 have sc:=Jn;bv_omega
 ·obtain⟨_,rfl,_⟩:=h
  rfl
 obtain⟨l,rfl,q⟩:=h;refine⟨_,(Ad (Cm PassesOwn.never rfl (KU (pv 0)) (Az (i:=1) sc.nd rfl (Or.inl rfl))
    (Ao (Bv (Bk X0 (pv 1) (U6 T.g_LETTERS rfl) rfl)
    (Ao (Be Ej))
    Bl)))
   (Ao (Be Ej))),?_⟩
 refine (vE rfl (vE rfl (FZ (l:=l) (fun i σ H2=>((∃ o,σ=[some (.str (tx l)),o])/\H2=H)/\∀ j c,j<i->l[j]?=some c->Fj c) ⟨⟨⟨none,rfl⟩,rfl⟩,fun _ _ z=>absurd z (zBm _)⟩ ?_ ?_)))
 ·rintro i c σ H2 hi ⟨⟨⟨o,rfl⟩,rfl⟩,good⟩
  refine (vE rfl ⟨c,_,rfl,rfl,vE rfl ?_⟩);by_cases hc:Fj c
  ·refine nF (let_in.mpr hc) ⟨⟨⟨_,rfl⟩,rfl⟩,fun j d hj hd=>?_⟩
   by_cases e:j=i
   ·subst e
    rw[hi] at hd;cases hd;exact hc
   ·exact good j d (by lia) hd
  ·refine nT (fun z=>hc (let_in.mp z)) ?_
   have n:¬ Jq l:=fun z=>hc (z c (zAF hi));rw[decide_eq_false n] at q;exact q
 ·rintro σ H2 ⟨⟨⟨o,rfl⟩,rfl⟩,good⟩
  have all:Jq l:=fun c hc=>by
   obtain⟨j,hj,e⟩:=zAU hc;exact good j c hj (by rw[zAd hj,e])
  rw[decide_eq_true all] at q;exact q
theorem N6:Bb ["thing"] ["thing"] (As Oh):=by injections
theorem K0 {f:Addr} {fd:zCC} (F:Fun K "is_name" "is_name" Oh f fd) (T:Txt K mg) (Chas_letters_alone:Cn P w K mg base 1 "has_letters_alone" ["text"] FP):FnOk P w K mg base Cu 2 f fd ["thing"] (Xg K):=by
 have sc:=N6;bv_omega
 ·obtain⟨_,_,rfl,_⟩:=h
  rfl
 obtain⟨x,ty,rfl,hty,ok,q⟩:=h;refine⟨_,(Ad (Bv (Dh (Cy (Bn Ct rfl T.n_isinstance (show zCB _=some (.builtin "isinstance") from rfl) (Aa (pv 0) (Aa (Ky "str" rfl T.n_str rfl) Af)))))
    (Ao (Be Ej))
    Bl)
   (Ao (Be (Wk (Rv Pa Pa Ak (Bn Xn rfl T.n_len (show zCB _=some (.builtin "len") from rfl) (Aa (pv 0) Af)) (Dk T.g_LONGEST_NAME rfl)) (Xi (Ax Chas_letters_alone (hr.mono (by decide)) rfl (Aa (pv 0) Af))))))),?_⟩
 refine (vE rfl ⟨_,_,_,_,_,rfl,Kx,hty,GX hty,_,rfl,?_⟩);cases x with
 | str z=>
  have hz:=ok z rfl;have ez:tx z.cps.toList=z:=FL z;refine Dy (vE rfl (vE rfl ⟨Ci (by lia),?_⟩));have lz:(z.length:Int)=(z.cps.toList.length:Int):=by rw[<- Ft,ez]
  refine (vF rfl rfl (vE rfl ?_));by_cases c1:1<=(z.length:Int)
  ·refine dT c1 (vF rfl rfl (vE rfl ?_))
   by_cases c2:(z.length:Int)<=8
   ·refine dT c2 (vE rfl ⟨z.cps.toList,by rw[ez]; rfl,?_⟩)
    have e:decide (Qq z.cps.toList)=decide (Jq z.cps.toList):=by
     by_cases a:Jq z.cps.toList
     ·rw[decide_eq_true a,decide_eq_true (show Qq _ from ⟨⟨by lia,by lia⟩,a⟩)]
     ·rw[decide_eq_false a,decide_eq_false (fun y=>a y.2)]
    rw[<- e];exact q
   ·refine dF c2 ?_
    rw[show Pe (.str z)=false from decide_eq_false (fun y=>c2 (by have:=y.1.2; lia))] at q;exact q
  ·refine dF c1 (vE rfl (Dy ?_))
   rw[show Pe (.str z)=false from decide_eq_false (fun y=>c1 (by have:=y.1.1; lia))] at q;exact q
 | _=>exact Po q
end
theorem Fb {C:Addr} {H H2:Hp} {x dx:Addr} (nx:H x=none) (ndx:H dx=none) (kp:∀ b o,(upd (upd H dx (.own x)) x (.ins C dx [])) b=some o->b≠x->H2 b=some o):Same H H2:=fun b o e=>
 kp b o (by rw[Ar (Ap e nx),Ar (Ap e ndx)]; exact e) (Ap e nx)
def KB (p:Addr) (H H':Hp):Prop:=∀ b o,H b=some o->b≠p->H' b=some o
theorem KB.upd {p:Addr} {H H':Hp} (k:KB p H H') (o:HO):KB p H (upd H' p o):=fun b u e n=>by rw[Ar n]; exact k b u e n
theorem KB.same {p:Addr} {H H' H'':Hp} (k:KB p H H') (s:Same H' H''):KB p H H'':=fun b u e n=>s _ _ (k b u e n)
theorem KB.free {p:Addr} {H H':Hp} {b:Addr} (k:KB p H H') (n:b≠p) (h:H' b=none):H b=none:=by
 cases z:H b with
 | none=>rfl
 | some o=>
  have:=k _ _ z n;rw[h] at this;cases this
theorem Dp {i:Nat} {v:V} {nx:St->Hp->Prop} {σ:St} {H:Hp} (σ':St) (e:σ.set i (some v)=σ') (h:nx σ' H):Ey i v σ H nx:=by
 unfold Ey;rw[e];exact h
theorem AV (l:List Str):(l.map V.str).all Ew=true:=by
 rw[List.all_map];exact zCw.mpr fun _ _=>rfl
theorem Bz {α:Type} {l:List α} {i:Nat} {x:α} (h:l[i]?=some x):l.take (i+1)=l.take i++[x]:=by
 rw[List.take_add_one,h];rfl
theorem f1 {f g:Str} {v:V} {fs:List (Str×V)} (h:¬ g=f):(Bs f v fs).lookup g=fs.lookup g:=by rw[Bi,if_neg h]
theorem f0 {f:Str} {v:V} {fs:List (Str×V)}:(Bs f v fs).lookup f=some v:=by rw[Bi,if_pos rfl]
theorem Fg (f:Str) (v:V):∀ fs:List (Str×V),(Bs f v fs).length<=fs.length+1
 | []=>zAn _
 | (g,u)::fs=>by
  unfold Bs
  split
  ·simp
  ·have:=Fg f v fs
   simp only [zAf]
   lia
theorem X3 {H:Hp} {x dx b:Addr} {o o':HO} (h:upd (upd H dx o) x o' b=none):H b=none:=by
 by_cases e:b=x
 ·subst e
  rw[Ab] at h;cases h
 ·rw[Ar e] at h
  by_cases e':b=dx
  ·subst e'
   rw[Ab] at h;cases h
  ·rw[Ar e'] at h
   exact h
def noM5 (fs:List (Str×V)):Prop:=fs.lookup ("asks" : Str)=none/\fs.lookup ("spans" : Str)=none/\fs.lookup ("window" : Str)=none/\fs.lookup ("parts" : Str)=none/\fs.lookup ("rest" : Str)=none
theorem noM5.put {f:Str} {v:V} {fs:List (Str×V)} (h:noM5 fs) (n1:¬ ("asks" : Str)=f) (n2:¬ ("spans" : Str)=f) (n3:¬ ("window" : Str)=f) (n4:¬ ("parts" : Str)=f) (n5:¬ ("rest" : Str)=f):noM5 (Bs f v fs):=
 ⟨by rw[f1 n1]; exact h.1,by rw[f1 n2]; exact h.2.1,by rw[f1 n3]; exact h.2.2.1,by rw[f1 n4]; exact h.2.2.2.1,by rw[f1 n5]; exact h.2.2.2.2⟩
def Wq:List V:=[.int 1]
def EA:Sp:=fun vs H Q _=>∃ a,vs=[.ref a]/\H a=some (.lst Wq)/\Q (.bl true) H
def P8:Sp:=fun vs H Q _=>vs=[.int 1,.int 0,.int 1,.int 0]/\Q (.bl true) H
def K9:Sp:=fun vs H Q _=>vs=[.int 1,.int 0,.int 1]/\Q (.int 1) H
def FQ:Sp:=fun vs H Q _=>∃ a b,vs=[.ref a,.ref b,.int 0]/\H a=some (.lst Wq)/\H b=some (.lst [.int 0])/\∀ H',Same H H'->Q (.int 0) H'
def ET:Sp:=fun vs H Q _=>∃ a,vs=[.ref a]/\H a=some (.lst Wq)/\∀ r H',Same H H'->Q (.ref r) H'
def DH (C:Addr):Sp:=fun vs H Q _=>∃ p dx a,vs=[.ref p,.ref a]/\H p=some (.ins C dx [])/\H a=some (.lst Wq)/\∀ H',KB p H H'->Q .non H'
def EC:Sp:=fun vs H Q _=>∃ a,vs=[.ref a]/\H a=some (.lst [.str "h"])/\∀ H',Same H H'->Q .non H'
theorem KQ:Pe (.str "h")=true:=by ac_nf
theorem MT:(Str.ofString "h").length<=8:=by ac_nf
section
seal L2.PS L2.PSs L2.PE L2.PA
variable {P:Program} {w:World} {K:zAa} {mg:Str->Option Value} {base:Heap} {Ac Ah Ag Am Au Bc Ba At Ae Aw Al Aj Bg Ai Bd Aq:Addr}
theorem Sc:Bb ["thing", "weight"] ["thing"] (As Ho):=by injections
theorem Qp {f:Addr} {fd:zCC} (F:Fun K "are_weights" "are_weights" Ho f fd) (T:Txt K mg) (Cis_whole:Cn P w K mg base 1 "is_whole" ["thing"] (Ik K)):FnOk P w K mg base Cu 2 f fd ["thing"] EA:=by
 have sc:=Sc;bv_omega
 ·obtain⟨_,rfl,_⟩:=h
  rfl
 obtain⟨a,rfl,ha,q⟩:=h;refine⟨_,(Ad (Bv (Dh (Cy (Bn Ct rfl T.n_isinstance (show zCB _=some (.builtin "isinstance") from rfl) (Aa (pv 0) (Aa (Ky "list" rfl T.n_list rfl) Af)))))
    (Ao (Be Ej))
    Bl)
   (Ad (Bv (PW.pt (Hg (Bk Fw (Bn By rfl T.n_len (show zCB _=some (.builtin "len") from rfl) (Aa (pv 0) Af)) Ak (Bm _)) (Gj (Bk Vq (Bn By rfl T.n_len (show zCB _=some (.builtin "len") from rfl) (Aa (pv 0) Af)) (Dk T.g_MOST_PLACES rfl) (Bm _)))))
    (Ao (Be Ej))
    Bl)
   (Ad (Cm PassesOwn.never rfl (Cb (pv 0)) (Az (i:=1) sc.nd rfl (Or.inl rfl))
    (Ao (Bv (PW.pt (Hg (Dh (Cy (Ax Cis_whole (hr.mono (by decide)) rfl (Aa (pv 1) Af)))) (Gj (Bk Fw (pv 1) Ak (Bm _)))))
    (Ao (Be Ej))
    Bl)))
   (Ao (Be (Hf Pa (Bn (To rfl) rfl T.n_sum (show zCB _=some (.builtin "sum") from rfl) (Aa (pv 0) Af)) (Dk T.g_MOST_TURNS rfl) (Bm _))))))),?_⟩
 refine (vE rfl ⟨_,_,_,_,_,rfl,Kx,.lst ha,EZ,_,rfl,Dy ?_⟩);refine (vE rfl ⟨a,_,rfl,.inl (SqL.of ha),vF rfl rfl (vE rfl (dF (by decide) (vE rfl ⟨a,_,rfl,.inl (SqL.of ha),vF rfl rfl (vE rfl (dF (by decide) ?_))⟩)))⟩);refine (vE rfl ⟨a,rfl,⟨_,SqL.of ha⟩,?_⟩);refine Dg (K:=K) (a:=a) (xs:=Wq) (fun i σ H2=>(∃ o,σ=[some (.ref a),o])/\H2=H) ⟨⟨none,rfl⟩,rfl⟩ (fun i σ H2 _ hh=>by rw[hh.2]; exact SqL.of ha) ?_ ?_
 ·rintro i x σ H2 hi ⟨⟨o,rfl⟩,rfl⟩
  obtain rfl:x = .int 1:=by
   match i,hi with
   | 0,h=>cases h; rfl
   | i+1,h=>simp [Wq] at h
  refine Dp [some (.ref a),some (.int 1)] rfl ?_;exact (vE rfl ⟨_,_,rfl,.int 1,_,rfl,Dy (vE rfl (vF rfl rfl (vE rfl (dF (by decide) ⟨⟨_,rfl⟩,rfl⟩))))⟩)
 ·rintro σ H2 ⟨⟨o,rfl⟩,rfl⟩
  exact (vE rfl ⟨a,[1],rfl,SqL.of ha,vF rfl rfl q⟩)
theorem F1:Bb ["weight", "dealt", "total", "turn"] ["weight", "dealt", "total", "turn"] (As Ma):=by injections
theorem Zy {f:Addr} {fd:zCC} (F:Fun K "may_have" "may_have" Ma f fd) (T:Txt K mg):FnOk P w K mg base Cu 1 f fd ["weight", "dealt", "total", "turn"] P8:=by
 have sc:=F1;bv_omega
 ·obtain⟨rfl,_⟩:=h
  rfl
 obtain⟨rfl,q⟩:=h;refine⟨_,(Ao (Be (Hf Fw (Ay Eb (pv 1) (pv 2)) (Ay Eb (pv 0) (Ay Cd (pv 3) Ak)) (Bm _)))),?_⟩;exact (vE rfl (vE rfl (vF rfl rfl ⟨.inl ⟨by decide,by decide⟩,vE rfl (vE rfl (vF rfl rfl (vF rfl rfl ⟨.inl ⟨by decide,by decide⟩,vF rfl rfl q⟩)))⟩)))
theorem AW:Bb ["weight", "dealt", "total"] ["weight", "dealt", "total"] (As Ss):=by injections
theorem AU {f:Addr} {fd:zCC} (F:Fun K "due_by" "due_by" Ss f fd) (T:Txt K mg):FnOk P w K mg base Cu 1 f fd ["weight", "dealt", "total"] K9:=by
 have sc:=AW;bv_omega
 ·obtain⟨rfl,_⟩:=h
  rfl
 obtain⟨rfl,q⟩:=h;refine⟨_,(Ao (Be (Ay Bw (Ay Ly (Ay Cd (Ay Eb (Ay Cd (pv 1) Ak) (pv 2)) (pv 0)) Ak) (pv 0)))),?_⟩;exact (vE rfl (vF rfl rfl (vE rfl (vF rfl rfl ⟨.inl ⟨by decide,by decide⟩,vE rfl (vF rfl rfl (vF rfl rfl (vE rfl (vF rfl rfl ⟨⟨by decide,by decide⟩,q⟩))))⟩))))
theorem Ou:Bb ["weights", "dealt", "turn", "total", "places", "best", "place"] ["weights", "dealt", "turn"] (As Fq):=by injections
theorem Oq {f:Addr} {fd:zCC} (F:Fun K "place_of_turn" "place_of_turn" Fq f fd) (T:Txt K mg) (Cmay_have:Cn P w K mg base 1 "may_have" ["weight", "dealt", "total", "turn"] P8) (Cdue_by:Cn P w K mg base 1 "due_by" ["weight", "dealt", "total"] K9):FnOk P w K mg base Cu 2 f fd ["weights", "dealt", "turn"] FQ:=by
 have sc:=Ou;bv_omega
 ·obtain⟨_,_,rfl,_⟩:=h
  rfl
 obtain⟨a,b,rfl,ha,hb,q⟩:=h;refine⟨_,(Ad (Bf (i:=3) sc.nd rfl (Or.inr rfl) (Bn (To rfl) rfl T.n_sum (show zCB _=some (.builtin "sum") from rfl) (Aa (pv 0) Af)))
   (Ad (Kj (NC:=["k", "total", "turn", "weights", "dealt"]) (own:=["k"]) (cs:=["total", "turn", "weights", "dealt"]) (ix:=[3,2,0,1]) (j:=4) sc.nd rfl rfl rfl (CompScope.of rfl) rfl ⟨⟨rfl,.inl rfl,rfl⟩,⟨⟨rfl,.inl rfl,rfl⟩,⟨⟨rfl,.inl rfl,rfl⟩,⟨⟨rfl,.inl rfl,rfl⟩,trivial⟩⟩⟩⟩ (Cw rfl T.n_range (Aa (Bn By rfl T.n_len (show zCB _=some (.builtin "len") from rfl) (Aa (pv 0) Af)) Af)) (fun _ _ _=>(Az (i:=0) (show (["k", "total", "turn", "weights", "dealt"]:List Str).Nodup from by ac_nf) rfl (Or.inl rfl))) (fun _ _ _=>(Mg (Cy (Ax Cmay_have (hr.mono (by decide)) rfl (Aa (Bh (Sw (K:=K) rfl) (pv 3) (pv 0) (fun _ _=>rfl)) (Aa (Bh (Sw (K:=K) rfl) (pv 4) (pv 0) (fun _ _=>rfl)) (Aa (pv 1) (Aa (pv 2) Af)))))))) (fun _ _ _=>(pv 0)))
   (Ad (Bf (i:=5) sc.nd rfl (Or.inl rfl) (Bh Bo (pv 4) Ak (fun _ _=>rfl)))
   (Ad (Cm PassesOwn.never rfl (Cb (pv 4)) (Az (i:=6) sc.nd rfl (Or.inl rfl))
    (Ao (Bv (Bk Fw (Ax Cdue_by (hr.mono (by decide)) rfl (Aa (Bh Bo (pv 0) (pv 6) (fun _ _=>rfl)) (Aa (Bh Bo (pv 1) (pv 6) (fun _ _=>rfl)) (Aa (pv 3) Af)))) (Ax Cdue_by (hr.mono (by decide)) rfl (Aa (Bh Bo (pv 0) (pv 5) (fun _ _=>rfl)) (Aa (Bh Bo (pv 1) (pv 5) (fun _ _=>rfl)) (Aa (pv 3) Af)))) (Bm _))
    (Ao (Bf (i:=5) sc.nd rfl (Or.inl rfl) (pv 6)))
    Bl)))
   (Ao (Be (pv 5))))))),?_⟩
 refine (vE rfl ⟨a,[1],rfl,SqL.of ha,?_⟩);refine Dp [some (.ref a),some (.ref b),some (.int 0),some (.int 1),none,none,none] rfl ?_;refine (vE rfl ⟨a,_,rfl,.inl (SqL.of ha),vE rfl ⟨by decide,by decide,fun pl npl=>?_⟩⟩);refine Lq (lo:=0) (n:=1) (fun i ys H2=>ys=(if i=0 then [] else [V.int 0])/\H2 pl=some (.lst ys)/\Same H H2) ⟨rfl,Ab,An npl _⟩ (fun i ys H2 hi ⟨e,h1,_⟩=>⟨h1,by rw[e]; split <;> simp; lia⟩) (by rw[zCA]; decide) (fun i ys H2 hi ⟨e,h1,s2⟩=>?_) (fun ys H2 ⟨e,h1,s2⟩=>?_)
 ·obtain rfl:i=0:=by lia
  rw[if_pos rfl] at e;subst e;exact (vE rfl (vE rfl (vI rfl rfl (SqL.of (s2 _ _ ha)) rfl (vE rfl (vE rfl (vI rfl rfl (SqL.of (s2 _ _ hb)) rfl (vE rfl (vE rfl ⟨rfl,vE rfl (Po (vE rfl ⟨h1,rfl,rfl,Ab,fun c o z=>by rw[Ar (Ap z npl)]; exact s2 c o z⟩))⟩))))))))
 rw[if_neg (by decide)] at e;subst e;refine Dp [some (.ref a),some (.ref b),some (.int 0),some (.int 1),some (.ref pl),none,none] rfl ?_;refine (vE rfl (vI rfl rfl (SqL.of h1) rfl ?_));refine Dp [some (.ref a),some (.ref b),some (.int 0),some (.int 1),some (.ref pl),some (.int 0),none] rfl ?_;refine (vE rfl ⟨pl,rfl,⟨_,SqL.of h1⟩,?_⟩);refine Dg (K:=K) (a:=pl) (xs:=[V.int 0]) (fun i σ H3=>(∃ o,σ=[some (.ref a),some (.ref b),some (.int 0),some (.int 1),some (.ref pl),some (.int 0),o])/\H3=H2) ⟨⟨none,rfl⟩,rfl⟩ (fun i σ H3 _ hh=>by rw[hh.2]; exact SqL.of h1) ?_ ?_
 ·rintro i x σ H3 hi ⟨⟨o,rfl⟩,rfl⟩
  obtain rfl:x = .int 0:=by
   match i,hi with
   | 0,h=>cases h; rfl
   | i+1,h=>simp at h
  refine Dp [some (.ref a),some (.ref b),some (.int 0),some (.int 1),some (.ref pl),some (.int 0),some (.int 0)] rfl ?_;have A:=SqL.of (K:=K) (s2 _ _ ha);have B:=SqL.of (K:=K) (s2 _ _ hb);exact (vE rfl (vE rfl ⟨a,_,_,_,rfl,rfl,A,rfl,vE rfl (vE rfl ⟨b,_,_,_,rfl,rfl,B,rfl,vE rfl ⟨rfl,vE rfl (vE rfl ⟨a,_,_,_,rfl,rfl,A,rfl,vE rfl (vE rfl ⟨b,_,_,_,rfl,rfl,B,rfl,vE rfl ⟨rfl,vF rfl rfl (vE rfl (dF (by decide) ⟨⟨_,rfl⟩,rfl⟩))⟩⟩)⟩)⟩⟩)⟩))
 ·rintro σ H3 ⟨⟨o,rfl⟩,rfl⟩
  exact (vE rfl (q _ s2))
theorem BP:Bb ["weights", "dealt", "wheel", "turn", "place"] ["weights"] (As Xp):=by injections
theorem DV {f:Addr} {fd:zCC} (F:Fun K "turns" "turns" Xp f fd) (T:Txt K mg) (Care_weights:Cn P w K mg base 2 "are_weights" ["thing"] EA) (Cplace_of_turn:Cn P w K mg base 2 "place_of_turn" ["weights", "dealt", "turn"] FQ):FnOk P w K mg base Cu 3 f fd ["weights"] ET:=by
 have sc:=BP;bv_omega
 ·obtain⟨_,rfl,_⟩:=h
  rfl
 obtain⟨a,rfl,ha,q⟩:=h;refine⟨_,(Ad (Bv (Dh (Cy (Ax Care_weights (hr.mono (by decide)) rfl (Aa (pv 0) Af))))
    (Ao Em)
    Bl)
   (Ad (Kj (NC:=["weight"]) (own:=["weight"]) (cs:=[]) (ix:=[]) (j:=1) sc.nd rfl rfl rfl (CompScope.of rfl) rfl trivial (Cb (pv 0)) (fun _ _ _=>(Az (i:=0) (show (["weight"]:List Str).Nodup from by ac_nf) rfl (Or.inl rfl))) (fun _ _ _=>Dd) (fun _ _ _=>Ak))
   (Ad (Bf (i:=2) sc.nd rfl (Or.inl rfl) (Cg Af))
   (Ad (Cm PassesOwn.never rfl (Cw rfl T.n_range (Aa (Bn (To rfl) rfl T.n_sum (show zCB _=some (.builtin "sum") from rfl) (Aa (pv 0) Af)) Af)) (Az (i:=3) sc.nd rfl (Or.inl rfl))
    (Ad (Bf (i:=4) sc.nd rfl (Or.inl rfl) (Ax Cplace_of_turn (hr.mono (by decide)) rfl (Aa (pv 0) (Aa (pv 1) (Aa (pv 3) Af)))))
   (Ad (Mb (Ay Cd (Bh Bo (pv 1) (pv 4) (fun _ _=>rfl)) Ak) (FS (pv 1) (pv 4) E2))
   (Ao (Cp (Gi PySem.F.plainAttrs_list PySem.F.slot_list_append PySem.F.type_list_append Dm (pv 2) (Aa (pv 4) Af)))))))
   (Ao (Be (pv 2))))))),?_⟩
 refine (vE rfl ⟨a,rfl,ha,_,rfl,Dy ?_⟩);refine (vE rfl ⟨a,rfl,⟨_,SqL.of ha⟩,fun de nde=>?_⟩);refine Ck (K:=K) (a:=a) (xs:=Wq) (fun i ys H2=>ys=(if i=0 then [] else [V.int 0])/\H2 de=some (.lst ys)/\Same H H2) ⟨rfl,Ab,An nde _⟩ (fun i ys H2 hi ⟨e,h1,s2⟩=>⟨h1,by rw[e]; split <;> simp; lia,SqL.of (s2 _ _ ha)⟩) (by rw[zCA]; decide) (fun i x ys H2 hi ⟨e,h1,s2⟩=>?_) (fun ys H2 ⟨e,h1,s2⟩=>?_)
 ·have il:=(zAi.mp hi).1
  obtain rfl:i=0:=by have:i<1:=il; lia
  rw[if_pos rfl] at e;subst e;exact⟨h1,rfl,rfl,Ab,fun c o z=>by rw[Ar (Ap z nde)]; exact s2 c o z⟩
 rw[if_neg (by decide)] at e;subst e;refine Dp [some (.ref a),some (.ref de),none,none,none] rfl ?_;refine⟨zAB _,fun wh nwh=>?_⟩;have s3:=An nwh (.lst []);have h3:upd H2 wh (.lst []) wh=some (.lst []):=Ab;have nwd:de≠wh:=Ap h1 nwh;generalize upd H2 wh (.lst [])=H3 at s3 h3;refine Dp [some (.ref a),some (.ref de),some (.ref wh),none,none] rfl ?_;have S3:=s2.trans s3;refine (vE rfl ⟨a,[1],rfl,SqL.of (S3 _ _ ha),vE rfl ⟨by decide,by decide,?_⟩⟩);refine Dq (lo:=0) (n:=1) (fun i σ H4=>(∃ o3 o4,σ=[some (.ref a),some (.ref de),some (.ref wh),o3,o4])/\(i=0->H4=H3)/\Same H H4) ⟨⟨none,none,rfl⟩,fun _=>rfl,S3⟩ ?_ ?_
 ·rintro i σ H4 hi ⟨⟨o3,o4,rfl⟩,e4,s4⟩
  obtain rfl:i=0:=by lia
  obtain rfl:=e4 rfl;refine Dp [some (.ref a),some (.ref de),some (.ref wh),some (.int 0),o4] rfl ?_;refine (vE rfl (vE rfl (vE rfl ⟨a,de,rfl,S3 _ _ ha,s3 _ _ h1,fun H5 s5=>?_⟩)));refine Dp [some (.ref a),some (.ref de),some (.ref wh),some (.int 0),some (.int 0)] rfl ?_;have hde:=s5 _ _ (s3 _ _ h1);refine (vE rfl (vE rfl (vI rfl rfl (SqL.of hde) rfl (vF rfl rfl (vE rfl (vE rfl ⟨de,_,_,0,rfl,rfl,hde,rfl,?_⟩))))));have hwh:∀ o,upd H5 de o wh=some (.lst []):=fun o=>by rw[Ar nwd.symm]; exact s5 _ _ h3
  refine (vE rfl ⟨.inl ⟨rfl,_,SqL.of (hwh _)⟩,vE rfl ⟨wh,_,_,rfl,rfl,hwh _,by rw[zCA]; decide,⟨_,_,rfl⟩,(fun e=>by lia),fun c o z=>?_⟩⟩);have fde:H de=none:=nde;rw[Ar (Ap z (s2.free nwh)),Ar (Ap z fde)];exact s5 _ _ (S3 c o z)
 ·rintro σ H4 ⟨⟨o3,o4,rfl⟩,_,s4⟩
  exact (vE rfl (q wh H4 s4))
theorem Nz:Bb ["self", "weights"] ["self", "weights"] (As Fi):=by injections
theorem Nv {f:Addr} {fd:zCC} (F:Fun K "__init__" "Deal.__init__" Fi f fd) (T:Txt K mg) (L:Kl K mg Ac Ah Ag Am Au Bc Ba At Ae Aw Al Aj Bg Ai Bd Aq) (Cturns:Cn P w K mg base 3 "turns" ["weights"] ET):FnOk P w K mg base Cu 4 f fd ["self", "weights"] (DH Bg):=by
 have sc:=Nz;bv_omega
 ·obtain⟨_,_,_,rfl,_⟩:=h
  rfl
 obtain⟨p,dx,a,rfl,hp,ha,q⟩:=h;refine⟨_,(Ad (Cr (pv 0) (Ax Cturns (hr.mono (by decide)) rfl (Aa (pv 1) Af)) rfl)
   (Ao (Cr (pv 0) (Dz De rfl T.n_list (show zCB _=some (.type "list") from rfl) (Aa (pv 1) Af)) rfl))),?_⟩
 have nap:a≠p:=He ha hp (by intro z; cases z);have k0:KB p H H:=fun _ _ e _=>e;refine (vE rfl ⟨a,rfl,ha,fun wh H1 s1=>?_⟩);refine (vE rfl ⟨p,Bg,dx,[],rfl,s1 _ _ hp,L.cl_Deal,L.na_Deal_wheel,(by show 0<1000; decide),?_⟩);have k2:=(k0.same s1).upd (.ins Bg dx (Bs "wheel" (.ref wh) []));refine (vE rfl ⟨a,_,rfl,.inl (SqL.of (k2 _ _ ha nap)),fun wt nwt=>?_⟩);have hpt:p≠wt:=fun z=>by rw[<- z,Ab] at nwt; cases nwt
 refine (vE rfl ⟨p,Bg,dx,_,rfl,(by rw[Ar hpt,Ab]),L.cl_Deal,L.na_Deal_weights,(by show 1<1000; decide),?_⟩);exact q _ ((k2.same (An nwt _)).upd _)
theorem Py:Bb ["houses", "k", "house"] ["houses"] (As Ge):=by injections
theorem Pk {f:Addr} {fd:zCC} (F:Fun K "check_houses" "check_houses" Ge f fd) (T:Txt K mg) (Cis_name:Cn P w K mg base 2 "is_name" ["thing"] (Xg K)):FnOk P w K mg base Cu 3 f fd ["houses"] EC:=by
 have sc:=Py;bv_omega
 ·obtain⟨_,rfl,_⟩:=h
  rfl
 obtain⟨a,rfl,ha,q⟩:=h;refine⟨_,(Ao (Cm PassesOwn.never rfl (Ms rfl T.n_enumerate (Aa (pv 0) Af)) (Dw (n:=2) rfl (Bj (Az (i:=1) sc.nd rfl (Or.inl rfl)) (Bj (Az (i:=2) sc.nd rfl (Or.inl rfl)) Da)))
    (Ao (Bv (PW.pt (Hg (Dh (Cy (Ax Cis_name (hr.mono (by decide)) rfl (Aa (pv 2) Af)))) (Gj (Bk Vo (pv 2) (Ep Fz (pv 0) Fx (Fy (pv 1))) rfl))))
    (Ao Em)
    Bl)))),?_⟩
 refine (vE rfl ⟨a,rfl,⟨_,SqL.of ha⟩,Ru (K:=K) (a:=a) (xs:=[V.str "h"]) (fun i σ H2=>(∃ o1 o2,σ=[some (.ref a),o1,o2])/\Same H H2) ⟨⟨none,none,rfl⟩,fun _ _ z=>z⟩ (fun i σ H2 _ hh=>SqL.of (hh.2 _ _ ha)) ?_ ?_⟩)
 ·rintro i x σ H2 t hi ⟨⟨o1,o2,rfl⟩,s2⟩ nt
  have il:=(zAi.mp hi).1;obtain rfl:i=0:=by have:i<1:=il; lia
  obtain rfl:x = .str "h" := by cases hi; rfl
  have s3:=s2.trans (An nt (.tup [V.int 0,.str "h"]));have q3:Pe (.str "h")=true:=KQ;refine (vE rfl ⟨_,_,rfl,.str _,(fun y e=>by cases e; exact zAG MT (by decide)),_,rfl,?_⟩);rw[q3];refine Dy (vE rfl (vE rfl (vE rfl (vE rfl ⟨a,_,rfl,SqL.of (s3 _ _ ha),fun m nm=>⟨m,[],rfl,.inl (SqL.of Ab),rfl,rfl,vE rfl (Dy ⟨⟨_,_,rfl⟩,s3.trans (An nm _)⟩)⟩⟩))))
 ·rintro σ H2 ⟨⟨o1,o2,rfl⟩,s2⟩
  exact q _ s2
end
def P0 (C:Addr):Sp:=fun vs H Q _=>∃ p dx nm cd c0 cs h0 t,∃ wv:Bool,vs=[.ref p,.str nm,cd,.ref c0,.ref h0,.bl wv]/\H p=some (.ins C dx [])/\(Pe (.str nm)=true/\nm.length<=8/\nm ≠ "self")/\H c0=some (.lst cs)/\cs.length<=8/\H h0=some (.lst [.ref t])/\H t=some (.tup [.str "h",.int 1]) /\
 ∀ H' cl h1 d0 fs,KB p H H'->H' p=some (.ins C d0 fs)->fs.lookup ("name" : Str)=some (.str nm)->fs.lookup ("condition" : Str)=some cd->fs.lookup ("clauses" : Str)=some (.ref cl)->fs.lookup ("houses" : Str)=some (.ref h1)->fs.lookup ("waits" : Str)=some (.bl wv)->noM5 fs->H' cl=some (.lst cs)->H cl=none->H' h1=some (.lst [.str "h"])->H h1=none->Q .non H'
section
variable {P:Program} {w:World} {K:zAa} {mg:Str->Option Value} {base:Heap} {Ac Ah Ag Am Au Bc Ba At Ae Aw Al Aj Bg Ai Bd Aq:Addr}
theorem Nn:Bb ["self", "name", "condition", "clauses", "houses", "waits", "pairs"] ["self", "name", "condition", "clauses", "houses", "waits"] (As Cf):=by injections
seal L2.PS L2.PSs L2.PE L2.PA
theorem Nd {f:Addr} {fd:zCC} (F:FunD K "__init__" "Cover.__init__" Cf f fd) (T:Txt K mg) (L:Kl K mg Ac Ah Ag Am Au Bc Ba At Ae Aw Al Aj Bg Ai Bd Aq) (Cis_name:Cn P w K mg base 2 "is_name" ["thing"] (Xg K)) (Ccheck_houses:Cn P w K mg base 3 "check_houses" ["houses"] EC)
  (KDeal:Ek P w K mg base 4 "Deal" Bg ["self", "weights"] (DH Bg)):FnOk P w K mg base Cu 6 f fd ["self", "name", "condition", "clauses", "houses", "waits"] (P0 Ai):=by
 have sc:=Nn;bv_omega
 ·obtain⟨_,_,_,_,_,_,_,_,_,rfl,_⟩:=h
  rfl
 obtain⟨p,dx,nm,cd,c0,cs,h0,t,wv,rfl,hp,⟨nx,n8,ns⟩,hc,l8,hh,ht,q⟩:=h;refine⟨_,(Ad (Bv (PW.pt (Hg (Dh (Cy (Ax Cis_name (hr.mono (by decide)) rfl (Aa (pv 1) Af)))) (Gj (Bk Db (pv 1) (U6 T.g_COVERED_ONE rfl) (Bm _)))))
    (Ao Em)
    Bl)
   (Ad (Cr (pv 0) (pv 1) rfl)
   (Ad (Cr (pv 0) (pv 2) rfl)
   (Ad (Cr (pv 0) (Nc (Bk Ti (pv 3) Gu (Bm _)) (Cg Af) (Dz De rfl T.n_list (show zCB _=some (.type "list") from rfl) (Aa (pv 3) Af))) rfl)
   (Ad (Bv (Bk Vq (Bn By rfl T.n_len (show zCB _=some (.builtin "len") from rfl) (Aa (Cq (pv 0) rfl) Af)) (Dk T.g_MOST_CLAUSES rfl) (Bm _))
    (Ao Em)
    Bl)
   (Ad (Bf (i:=6) sc.nd rfl (Or.inl rfl) (Nc (Bk Ti (pv 4) Gu (Bm _)) (Cg (Aa (Cc (Aa (pv 1) (Aa Ak Af))) Af)) (pv 4)))
   (Ad (Cr (pv 0) (Dj (NC:=["pair"]) (own:=["pair"]) (cs:=[]) (ix:=[]) rfl (CompScope.of rfl) rfl trivial (Cb (pv 6)) (fun _ _ _=>(Az (i:=0) (show (["pair"]:List Str).Nodup from by ac_nf) rfl (Or.inl rfl))) (fun _ _ _=>Dd) (fun _ _ _=>(Bh (Ee (K:=K) rfl) (pv 0) Ak (fun _ _=>rfl)))) rfl)
   (Ad (Cp (Ax Ccheck_houses (hr.mono (by decide)) rfl (Aa (Cq (pv 0) rfl) Af)))
   (Ad (Cr (pv 0) (Do KDeal (hr.mono (by decide)) rfl (Aa (Dj (NC:=["pair"]) (own:=["pair"]) (cs:=[]) (ix:=[]) rfl (CompScope.of rfl) rfl trivial (Cb (pv 6)) (fun _ _ _=>(Az (i:=0) (show (["pair"]:List Str).Nodup from by ac_nf) rfl (Or.inl rfl))) (fun _ _ _=>Dd) (fun _ _ _=>(Bh (Ee (K:=K) rfl) (pv 0) Ak (fun _ _=>rfl)))) Af)) rfl)
   (Ao (Cr (pv 0) (pv 5) rfl))))))))))),?_⟩
 have k0:KB p H H:=fun _ _ e _=>e;have nc0:c0≠p:=He hc hp (by intro z; cases z);have nh0:h0≠p:=He hh hp (by intro z; cases z);have nt:t≠p:=He ht hp (by intro z; cases z);refine (vE rfl ⟨_,_,rfl,.str nm,(fun y e=>by cases e; exact zAG n8 (by decide)),_,rfl,?_⟩);rw[nx];refine Dy (vE rfl ⟨rfl,vE rfl (dF (fun e=>ns (V.str.inj e)) ?_)⟩);refine (vE rfl (vE rfl ⟨p,Ai,dx,[],rfl,hp,L.cl_Cover,L.na_Cover_name,by decide,?_⟩));refine (vE rfl (vE rfl ⟨p,Ai,dx,_,rfl,Ab,L.cl_Cover,L.na_Cover_condition,zCk (Fg _ _ _) (by decide),?_⟩));have k2:KB p H (upd (upd H p (.ins Ai dx (Bs "name" (.str nm) []))) p (.ins Ai dx (Bs "condition" cd (Bs "name" (.str nm) [])))):=KB.upd (KB.upd k0 _) _;have e2:upd (upd H p (.ins Ai dx (Bs "name" (.str nm) []))) p (.ins Ai dx (Bs "condition" cd (Bs "name" (.str nm) []))) p=some (.ins Ai dx (Bs "condition" cd (Bs "name" (.str nm) []))):=Ab;have g2:(Bs "condition" cd (Bs "name" (.str nm) [])).length<=2:=zAG (Fg _ _ _) (Nat.succ_le_succ (Fg _ _ _));have n2:(Bs "condition" cd (Bs "name" (.str nm) [])).lookup ("name" : Str)=some (.str nm)/\(Bs "condition" cd (Bs "name" (.str nm) [])).lookup ("condition" : Str)=some cd:=⟨by rw[f1 (by ac_nf),f0],f0⟩;have a2:noM5 (Bs "condition" cd (Bs "name" (.str nm) [])):=noM5.put (noM5.put ⟨rfl,rfl,rfl,rfl,rfl⟩ (by ac_nf) (by ac_nf) (by ac_nf) (by ac_nf) (by ac_nf)) (by ac_nf) (by ac_nf) (by ac_nf) (by ac_nf) (by ac_nf);generalize Bs "condition" cd (Bs "name" (.str nm) [])=fs2 at k2 e2 g2 n2 a2
 generalize upd (upd H p (.ins Ai dx (Bs "name" (.str nm) []))) p (.ins Ai dx fs2)=H2 at k2 e2;refine (vE rfl ⟨rfl,vE rfl (dF (fun e=>by cases e) (vE rfl ⟨c0,_,rfl,.inl (SqL.of (k2 _ _ hc nc0)),fun cl ncl=>?_⟩))⟩);have s3:=An ncl (.lst cs);have ncp:cl≠p:=(Ap e2 ncl).symm;have fcl:H cl=none:=k2.free ncp ncl;refine (vE rfl ⟨p,Ai,dx,fs2,rfl,s3 _ _ e2,L.cl_Cover,L.na_Cover_clauses,by lia,?_⟩);have k3:=(k2.same s3).upd (.ins Ai dx (Bs "clauses" (.ref cl) fs2));have e3:upd (upd H2 cl (.lst cs)) p (.ins Ai dx (Bs "clauses" (.ref cl) fs2)) p=some (.ins Ai dx (Bs "clauses" (.ref cl) fs2)):=Ab;have c3:upd (upd H2 cl (.lst cs)) p (.ins Ai dx (Bs "clauses" (.ref cl) fs2)) cl=some (.lst cs):=by rw[Ar ncp,Ab]
 have g3:(Bs "clauses" (.ref cl) fs2).length<=3:=zAG (Fg _ _ _) (by lia);have n3:(Bs "clauses" (.ref cl) fs2).lookup ("name" : Str)=some (.str nm)/\(Bs "clauses" (.ref cl) fs2).lookup ("condition" : Str)=some cd/\(Bs "clauses" (.ref cl) fs2).lookup ("clauses" : Str)=some (.ref cl):=⟨by rw[f1 (by ac_nf)]; exact n2.1,by rw[f1 (by ac_nf)]; exact n2.2,f0⟩;have a3:noM5 (Bs "clauses" (.ref cl) fs2):=a2.put (by ac_nf) (by ac_nf) (by ac_nf) (by ac_nf) (by ac_nf);generalize Bs "clauses" (.ref cl) fs2=fs3 at k3 e3 c3 g3 n3 a3;generalize upd (upd H2 cl (.lst cs)) p (.ins Ai dx fs3)=H3 at k3 e3 c3;refine (vE rfl ⟨p,Ai,dx,fs3,_,rfl,e3,L.cl_Cover,L.na_Cover_clauses,n3.2.2,cl,_,rfl,.inl (SqL.of c3),vF rfl rfl (vE rfl (dF (by lia) ?_))⟩);refine (vE rfl ⟨rfl,vE rfl (dF (fun e=>by cases e) (vE rfl ?_))⟩);refine Dp [some (.ref p),some (.str nm),some cd,some (.ref c0),some (.ref h0),some (.bl wv),some (.ref h0)] rfl ?_;have hh3:=k3 _ _ hh nh0;have ht3:=k3 _ _ ht nt;have g1of:∀ {i:Nat} {x:V},[V.ref t][i]?=some x->i=0/\x = .ref t:=fun {i x} h=>by
  match i,h with
  | 0,h=>cases h; exact⟨rfl,rfl⟩
  | i+1,h=>simp at h
 refine (vE rfl ⟨h0,rfl,⟨_,SqL.of hh3⟩,fun h1 nh=>?_⟩);refine Ck (K:=K) (a:=h0) (xs:=[V.ref t]) (fun i zs H5=>zs=(if i=0 then [] else [V.str "h"])/\H5 h1=some (.lst zs)/\Same H3 H5) ⟨rfl,Ab,An nh _⟩ (fun i zs H5 hi ⟨e,h1',s5⟩=>⟨h1',by rw[e]; split <;> simp; lia,SqL.of (s5 _ _ hh3)⟩) (by rw[zCA]; show 1<=16777216; decide) (fun i x zs H5 hi ⟨e,h1',s5⟩=>?_) (fun zs H5 ⟨e,h1',s5⟩=>?_)
 ·obtain⟨rfl,rfl⟩:=g1of hi
  rw[if_pos rfl] at e;subst e;exact (vE rfl (vI rfl rfl (SqT.of (s5 _ _ ht3)) rfl ⟨h1',rfl,rfl,Ab,fun b o z=>by rw[Ar (Ap z nh)]; exact s5 b o z⟩))
 rw[if_neg (by show ¬ 1=0; decide)] at e;subst e;have e5:=s5 _ _ e3;have nhp:h1≠p:=(Ap e3 nh).symm;have fh1:H h1=none:=k3.free nhp nh;refine (vE rfl ⟨p,Ai,dx,fs3,rfl,e5,L.cl_Cover,L.na_Cover_houses,by lia,?_⟩);have k6:=(k3.same s5).upd (.ins Ai dx (Bs "houses" (.ref h1) fs3));have e6:upd H5 p (.ins Ai dx (Bs "houses" (.ref h1) fs3)) p=some (.ins Ai dx (Bs "houses" (.ref h1) fs3)):=Ab;have h6:upd H5 p (.ins Ai dx (Bs "houses" (.ref h1) fs3)) h1=some (.lst [.str "h"]):=by rw[Ar nhp]; exact h1'
 have c6:upd H5 p (.ins Ai dx (Bs "houses" (.ref h1) fs3)) cl=some (.lst cs):=by rw[Ar ncp]; exact s5 _ _ c3
 have g6:(Bs "houses" (.ref h1) fs3).length<=4:=zAG (Fg _ _ _) (by lia);have n6:(Bs "houses" (.ref h1) fs3).lookup ("name" : Str)=some (.str nm)/\(Bs "houses" (.ref h1) fs3).lookup ("condition" : Str)=some cd/\(Bs "houses" (.ref h1) fs3).lookup ("clauses" : Str)=some (.ref cl)/\(Bs "houses" (.ref h1) fs3).lookup ("houses" : Str)=some (.ref h1):=⟨by rw[f1 (by ac_nf)]; exact n3.1,by rw[f1 (by ac_nf)]; exact n3.2.1,by rw[f1 (by ac_nf)]; exact n3.2.2,f0⟩;have a6:noM5 (Bs "houses" (.ref h1) fs3):=a3.put (by ac_nf) (by ac_nf) (by ac_nf) (by ac_nf) (by ac_nf);generalize Bs "houses" (.ref h1) fs3=fs6 at e6 h6 c6 k6 g6 n6 a6;generalize upd H5 p (.ins Ai dx fs6)=H6 at e6 h6 c6 k6;refine (vE rfl ⟨p,Ai,dx,fs6,_,rfl,e6,L.cl_Cover,L.na_Cover_houses,n6.2.2.2,h1,rfl,h6,fun H7 s7=>?_⟩);have k7:=k6.same s7;have hh7:=k7 _ _ hh nh0;have ht7:=k7 _ _ ht nt;refine (vE rfl ⟨h0,rfl,⟨_,SqL.of hh7⟩,fun wl nwl=>?_⟩);refine Ck (K:=K) (a:=h0) (xs:=[V.ref t]) (fun i zs H8=>zs=(if i=0 then [] else Wq)/\H8 wl=some (.lst zs)/\Same H7 H8) ⟨rfl,Ab,An nwl _⟩ (fun i zs H8 hi ⟨e,h2,s8⟩=>⟨h2,by rw[e]; split <;> simp [Wq]; lia,SqL.of (s8 _ _ hh7)⟩) (by rw[zCA]; show 1<=16777216; decide) (fun i x zs H8 hi ⟨e,h2,s8⟩=>?_) (fun zs H8 ⟨e,h2,s8⟩=>?_)
 ·obtain⟨rfl,rfl⟩:=g1of hi
  rw[if_pos rfl] at e;subst e;exact (vE rfl (vI rfl rfl (SqT.of (s8 _ _ ht7)) rfl ⟨h2,rfl,rfl,Ab,fun b o z=>by rw[Ar (Ap z nwl)]; exact s8 b o z⟩))
 rw[if_neg (by show ¬ 1=0; decide)] at e;subst e;intro d dd nd ndd nde;have s9:Same H8 (upd (upd H8 dd (.own d)) d (.ins Bg dd [])):=(An ndd _).trans (An (by rw[Ar (Ne.symm nde)]; exact nd) _);refine⟨d,dd,wl,rfl,Ab,s9 _ _ h2,fun H9 kp9=>⟨rfl,?_⟩⟩;have s10:Same H6 H9:=s7.trans (s8.trans (Fb nd ndd kp9));refine (vE rfl ⟨p,Ai,dx,fs6,rfl,s10 _ _ e6,L.cl_Cover,L.na_Cover_deal,by lia,?_⟩);have g10:(Bs "deal" (.ref d) fs6).length<=5:=zAG (Fg _ _ _) (by lia);refine (vE rfl (vE rfl ⟨p,Ai,dx,_,rfl,Ab,L.cl_Cover,L.na_Cover_waits,by lia,?_⟩));have lk:∀ {f:Str} {v:V},fs6.lookup f=some v->¬ f = "deal" -> ¬ f = "waits" -> (Bs "waits" (.bl wv) (Bs "deal" (.ref d) fs6)).lookup f=some v:=fun h n1 n2=>by rw[f1 n2,f1 n1]; exact h
 refine q _ cl h1 dx _ (((k6.same s10).upd _).upd _) Ab (lk n6.1 (by ac_nf) (by ac_nf)) (lk n6.2.1 (by ac_nf) (by ac_nf)) (lk n6.2.2.1 (by ac_nf) (by ac_nf)) (lk n6.2.2.2 (by ac_nf) (by ac_nf)) f0 (noM5.put (a6.put (by ac_nf) (by ac_nf) (by ac_nf) (by ac_nf) (by ac_nf)) (by ac_nf) (by ac_nf) (by ac_nf) (by ac_nf) (by ac_nf)) ?_ fcl ?_ fh1
 ·rw[Ar ncp,Ar ncp]; exact s10 _ _ c6
 ·rw[Ar nhp,Ar nhp]; exact s10 _ _ h6
end
def RI (fs:List (Str×V)):Prop:=fs.lookup ("spans" : Str)=none/\fs.lookup ("window" : Str)=none/\fs.lookup ("parts" : Str)=none/\fs.lookup ("rest" : Str)=none
def CvAt (C:Addr) (H:Hp) (p cl:Addr):Prop:=∃ dx fs,H p=some (.ins C dx fs)/\fs.lookup ("clauses" : Str)=some (.ref cl)/\RI fs
theorem CvAt.same {C:Addr} {H H':Hp} {p cl:Addr} (h:CvAt C H p cl) (s:Same H H'):CvAt C H' p cl:=by
 obtain⟨dx,fs,e,r⟩:=h;exact⟨dx,fs,s _ _ e,r⟩
theorem Xy {α:Type} {l:List α} {i:Nat} {x:α} (h:l[i]?=some x):l.drop i=x::l.drop (i+1):=by
 rw[zBw (zAi.mp h).1]
 congr 1
 exact (zAi.mp h).2
def Jj (C:Addr) (f:Str):Sp:=fun vs H Q _=>∃ p dx v,vs=[.ref p,v]/\H p=some (.ins C dx [])/\Q .non (upd H p (.ins C dx (Bs f v [])))
def CT (C:Addr):Sp:=fun vs H Q _=>∃ p dx v w,vs=[.ref p,v,w]/\H p=some (.ins C dx [])/\∀ H',(∀ b,b≠p->H' b=H b)->H' p=some (.ins C dx (Bs "last" w (Bs "first" v [])))->Q .non H'
def Wg (C:Addr):Sp:=fun vs H Q _=>∃ p dx a xs,vs=[.ref p,.ref a]/\H p=some (.ins C dx [])/\H a=some (.lst xs)/\∀ l H',H l=none->(∀ b,b≠p->b≠l->H' b=H b)->H' p=some (.ins C dx (Bs "several" (.ref l) []))->H' l=some (.lst xs)->Q .non H'
def Ds (κ:A8) (m:Nat) (C:Addr):Sp:=fun vs H Q _=>∃ p t l x,vs=[.ref p,.ref l]/\CdAt κ H (.ref p) t/\κ.of t=C/\Ow t<m/\MQ H l x/\Q (.bl (hT t x)) H
section
variable {P:Program} {w:World} {K:zAa} {mg:Str->Option Value} {base:Heap} {Ac Ah Ag Am Au Bc Ba At Ae Aw Al Aj Bg Ai Bd Aq:Addr}
theorem IV (L:Kl K mg Ac Ah Ag Am Au Bc Ba At Ae Aw Al Aj Bg Ai Bd Aq):(A8.mk Ac Ah Ag Am Au Bc Ba At).l.Nodup:=by
 first
  | exact L.nd
  | exact List.Nodup.sublist (List.sublist_append_left (A8.mk Ac Ah Ag Am Au Bc Ba At).l _) L.nd
theorem Fh {κ:A8} {C:Addr} {vs:List V} {H:Hp} {Q:VK} {E:XK} (h:Ds κ 0 C vs H Q E):False:=by
 obtain⟨_,_,_,_,_,_,_,h,_⟩:=h;exact absurd h (zBm _)
theorem Ku:Bb ["self", "name"] ["self", "name"] (As Ei):=by injections
theorem Kq {f:Addr} {fd:zCC} (F:Fun K "__init__" "CauseIs.__init__" Ei f fd) (L:Kl K mg Ac Ah Ag Am Au Bc Ba At Ae Aw Al Aj Bg Ai Bd Aq):FnOk P w K mg base Cu 1 f fd ["self", "name"] (Jj Ah "name"):=by
 have sc:=Ku;bv_omega
 ·obtain⟨_,_,_,rfl,_⟩:=h
  rfl
 obtain⟨p,dx,n,rfl,hp,q⟩:=h;refine⟨_,(Ao (Cr (pv 0) (pv 1) rfl)),?_⟩;exact (vE rfl (vE rfl ⟨p,_,dx,_,rfl,hp,L.cl_CauseIs,L.na_CauseIs_name,(by show 0<1000; decide),q⟩))
theorem Kt:Bb ["self", "name"] ["self", "name"] (As Eh):=by injections
theorem Kr {f:Addr} {fd:zCC} (F:Fun K "__init__" "ThingIs.__init__" Eh f fd) (L:Kl K mg Ac Ah Ag Am Au Bc Ba At Ae Aw Al Aj Bg Ai Bd Aq):FnOk P w K mg base Cu 1 f fd ["self", "name"] (Jj Ag "name"):=by
 have sc:=Kt;bv_omega
 ·obtain⟨_,_,_,rfl,_⟩:=h
  rfl
 obtain⟨p,dx,n,rfl,hp,q⟩:=h;refine⟨_,(Ao (Cr (pv 0) (pv 1) rfl)),?_⟩;exact (vE rfl (vE rfl ⟨p,_,dx,_,rfl,hp,L.cl_ThingIs,L.na_ThingIs_name,(by show 0<1000; decide),q⟩))
theorem Nr:Bb ["self", "cents"] ["self", "cents"] (As Fo):=by injections
theorem Oj {f:Addr} {fd:zCC} (F:Fun K "__init__" "Over.__init__" Fo f fd) (L:Kl K mg Ac Ah Ag Am Au Bc Ba At Ae Aw Al Aj Bg Ai Bd Aq):FnOk P w K mg base Cu 1 f fd ["self", "cents"] (Jj Au "cents"):=by
 have sc:=Nr;bv_omega
 ·obtain⟨_,_,_,rfl,_⟩:=h
  rfl
 obtain⟨p,dx,n,rfl,hp,q⟩:=h;refine⟨_,(Ao (Cr (pv 0) (pv 1) rfl)),?_⟩;exact (vE rfl (vE rfl ⟨p,_,dx,_,rfl,hp,L.cl_Over,L.na_Over_cents,(by show 0<1000; decide),q⟩))
theorem Qb:Bb ["self", "part"] ["self", "part"] (As Gr):=by injections
theorem Qa {f:Addr} {fd:zCC} (F:Fun K "__init__" "Not.__init__" Gr f fd) (L:Kl K mg Ac Ah Ag Am Au Bc Ba At Ae Aw Al Aj Bg Ai Bd Aq):FnOk P w K mg base Cu 1 f fd ["self", "part"] (Jj Bc "part"):=by
 have sc:=Qb;bv_omega
 ·obtain⟨_,_,_,rfl,_⟩:=h
  rfl
 obtain⟨p,dx,n,rfl,hp,q⟩:=h;refine⟨_,(Ao (Cr (pv 0) (pv 1) rfl)),?_⟩;exact (vE rfl (vE rfl ⟨p,_,dx,_,rfl,hp,L.cl_Not,L.na_Not_part,(by show 0<1000; decide),q⟩))
theorem Kz:Bb ["self", "first", "last"] ["self", "first", "last"] (As En):=by injections
theorem Lo {f:Addr} {fd:zCC} (F:Fun K "__init__" "DaysIn.__init__" En f fd) (L:Kl K mg Ac Ah Ag Am Au Bc Ba At Ae Aw Al Aj Bg Ai Bd Aq):FnOk P w K mg base Cu 1 f fd ["self", "first", "last"] (CT Am):=by
 have sc:=Kz;bv_omega
 ·obtain⟨_,_,_,_,rfl,_⟩:=h
  rfl
 obtain⟨p,dx,a,b,rfl,hp,q⟩:=h;refine⟨_,(Ad (Cr (pv 0) (pv 1) rfl)
   (Ao (Cr (pv 0) (pv 2) rfl))),?_⟩
 refine (vE rfl (vE rfl ⟨p,_,dx,_,rfl,hp,L.cl_DaysIn,L.na_DaysIn_first,(by show 0<1000; decide),?_⟩));exact (vE rfl (vE rfl ⟨p,_,dx,_,rfl,Ab,L.cl_DaysIn,L.na_DaysIn_last,(by show 1<1000; decide),q _ (fun b n=>by rw[Ar n,Ar n]) Ab⟩))
theorem Pn:Bb ["self", "several"] ["self", "several"] (As Gn):=by injections
theorem Ps {f:Addr} {fd:zCC} (F:Fun K "__init__" "All.__init__" Gn f fd) (T:Txt K mg) (L:Kl K mg Ac Ah Ag Am Au Bc Ba At Ae Aw Al Aj Bg Ai Bd Aq):FnOk P w K mg base Cu 1 f fd ["self", "several"] (Wg Ba):=by
 have sc:=Pn;bv_omega
 ·obtain⟨_,_,_,_,rfl,_⟩:=h
  rfl
 obtain⟨p,dx,a,xs,rfl,hp,ha,q⟩:=h;refine⟨_,(Ao (Cr (pv 0) (Dz De rfl T.n_list (show zCB _=some (.type "list") from rfl) (Aa (pv 1) Af)) rfl)),?_⟩;refine (vE rfl ⟨a,_,rfl,.inl (SqL.of ha),fun l hl=>?_⟩);have hpl:p≠l:=Ap hp hl;exact (vE rfl ⟨p,_,dx,_,rfl,(by rw[Ar hpl]; exact hp),L.cl_All,L.na_All_several,(by show 0<1000; decide),q l _ hl (fun b n1 n2=>by rw[Ar n1,Ar n2]) Ab (by rw[Ar hpl.symm,Ab])⟩)
theorem On:Bb ["self", "several"] ["self", "several"] (As Fs):=by injections
theorem Nu {f:Addr} {fd:zCC} (F:Fun K "__init__" "Some.__init__" Fs f fd) (T:Txt K mg) (L:Kl K mg Ac Ah Ag Am Au Bc Ba At Ae Aw Al Aj Bg Ai Bd Aq):FnOk P w K mg base Cu 1 f fd ["self", "several"] (Wg At):=by
 have sc:=On;bv_omega
 ·obtain⟨_,_,_,_,rfl,_⟩:=h
  rfl
 obtain⟨p,dx,a,xs,rfl,hp,ha,q⟩:=h;refine⟨_,(Ao (Cr (pv 0) (Dz De rfl T.n_list (show zCB _=some (.type "list") from rfl) (Aa (pv 1) Af)) rfl)),?_⟩;refine (vE rfl ⟨a,_,rfl,.inl (SqL.of ha),fun l hl=>?_⟩);have hpl:p≠l:=Ap hp hl;exact (vE rfl ⟨p,_,dx,_,rfl,(by rw[Ar hpl]; exact hp),L.cl_Some,L.na_Some_several,(by show 0<1000; decide),q l _ hl (fun b n1 n2=>by rw[Ar n1,Ar n2]) Ab (by rw[Ar hpl.symm,Ab])⟩)
theorem Lm:Bb ["self", "loss"] ["self", "loss"] (As Er):=by injections
theorem Lz {f:Addr} {fd:zCC} (F:Fun K "holds" "Condition.holds" Er f fd) (L:Kl K mg Ac Ah Ag Am Au Bc Ba At Ae Aw Al Aj Bg Ai Bd Aq) {m:Nat}:FnOk P w K mg base Cu 1 f fd ["self", "loss"] (Ds (A8.mk Ac Ah Ag Am Au Bc Ba At) m Ac):=by
 have sc:=Lm;bv_omega
 ·obtain⟨_,_,_,_,rfl,_⟩:=h
  rfl
 obtain⟨p,t,l,x,rfl,hp,hc,hg,hl,q⟩:=h;obtain rfl:=RJ (κ:=A8.mk Ac Ah Ag Am Au Bc Ba At) (IV L) hc;unfold hT at q;exact⟨_,(Ao (Be Ej)),q⟩
theorem Nx:Bb ["self", "loss"] ["self", "loss"] (As Fl):=by injections
theorem Of {f:Addr} {fd:zCC} (F:Fun K "holds" "CauseIs.holds" Fl f fd) (T:Txt K mg) (L:Kl K mg Ac Ah Ag Am Au Bc Ba At Ae Aw Al Aj Bg Ai Bd Aq) {m:Nat}:FnOk P w K mg base Cu 1 f fd ["self", "loss"] (Ds (A8.mk Ac Ah Ag Am Au Bc Ba At) m Ah):=by
 have sc:=Nx;bv_omega
 ·obtain⟨_,_,_,_,rfl,_⟩:=h
  rfl
 obtain⟨p,t,l,x,rfl,hp,hc,hg,⟨ev,n,ht⟩,q⟩:=h;obtain⟨nm,rfl⟩:=QW (κ:=A8.mk Ac Ah Ag Am Au Bc Ba At) (IV L) hc;unfold hT at q;unfold CdAt at hp;obtain⟨_,dx,e,hp⟩:=hp;cases e;refine⟨_,(Ao (Be (Hf Db (Bh Bp (pv 1) (Dk T.g_CAUSE rfl) (fun _ _=>rfl)) (Cq (pv 0) rfl) (Bm _)))),?_⟩;exact (vE rfl (vI rfl rfl (SqT.of ht) rfl (vE rfl ⟨p,_,dx,_,_,rfl,hp,L.cl_CauseIs,L.na_CauseIs_name,BW nm,rfl,q⟩)))
theorem Oa:Bb ["self", "loss"] ["self", "loss"] (As Fn):=by injections
theorem Od {f:Addr} {fd:zCC} (F:Fun K "holds" "ThingIs.holds" Fn f fd) (T:Txt K mg) (L:Kl K mg Ac Ah Ag Am Au Bc Ba At Ae Aw Al Aj Bg Ai Bd Aq) {m:Nat}:FnOk P w K mg base Cu 1 f fd ["self", "loss"] (Ds (A8.mk Ac Ah Ag Am Au Bc Ba At) m Ag):=by
 have sc:=Oa;bv_omega
 ·obtain⟨_,_,_,_,rfl,_⟩:=h
  rfl
 obtain⟨p,t,l,x,rfl,hp,hc,hg,⟨ev,n,ht⟩,q⟩:=h;obtain⟨nm,rfl⟩:=RF (κ:=A8.mk Ac Ah Ag Am Au Bc Ba At) (IV L) hc;unfold hT at q;unfold CdAt at hp;obtain⟨_,dx,e,hp⟩:=hp;cases e;refine⟨_,(Ao (Be (Hf Db (Bh Bp (pv 1) (Dk T.g_THING rfl) (fun _ _=>rfl)) (Cq (pv 0) rfl) (Bm _)))),?_⟩;exact (vE rfl (vI rfl rfl (SqT.of ht) rfl (vE rfl ⟨p,_,dx,_,_,rfl,hp,L.cl_ThingIs,L.na_ThingIs_name,EY nm,rfl,q⟩)))
theorem Pu:Bb ["self", "loss"] ["self", "loss"] (As Gq):=by injections
theorem Pq {f:Addr} {fd:zCC} (F:Fun K "holds" "DaysIn.holds" Gq f fd) (T:Txt K mg) (L:Kl K mg Ac Ah Ag Am Au Bc Ba At Ae Aw Al Aj Bg Ai Bd Aq) {m:Nat}:FnOk P w K mg base Cu 1 f fd ["self", "loss"] (Ds (A8.mk Ac Ah Ag Am Au Bc Ba At) m Am):=by
 have sc:=Pu;bv_omega
 ·obtain⟨_,_,_,_,rfl,_⟩:=h
  rfl
 obtain⟨p,t,l,x,rfl,hp,hc,hg,⟨ev,n,ht⟩,q⟩:=h;obtain⟨a,b,rfl⟩:=RK (κ:=A8.mk Ac Ah Ag Am Au Bc Ba At) (IV L) hc;unfold hT at q;unfold CdAt at hp;obtain⟨_,dx,e,hp⟩:=hp;cases e;refine⟨_,(Ao (Be (Rv Pa Pa (Cq (pv 0) rfl) (Bh Bp (pv 1) (Dk T.g_DAY rfl) (fun _ _=>rfl)) (Cq (pv 0) rfl)))),?_⟩;have q':Q (.bl (decide (a<=x.d)&&decide (x.d<=b))) H:=q;refine (vE rfl ⟨p,_,dx,_,_,rfl,hp,L.cl_DaysIn,L.na_DaysIn_first,EK a b,_,rfl,vI rfl rfl (SqT.of ht) rfl (vF rfl rfl (vE rfl (Su (fun e=>?_) (fun e=>?_))))⟩)
 ·rw[e,Bool.true_and] at q'
  exact (vE rfl ⟨p,_,dx,_,_,rfl,hp,L.cl_DaysIn,L.na_DaysIn_last,GN a b,_,_,rfl,rfl,q'⟩)
 ·rw[zBc.mpr e,Bool.false_and] at q'
  exact q'
theorem Tw:Bb ["self", "loss"] ["self", "loss"] (As Iu):=by injections
theorem Uv {f:Addr} {fd:zCC} (F:Fun K "holds" "Over.holds" Iu f fd) (T:Txt K mg) (L:Kl K mg Ac Ah Ag Am Au Bc Ba At Ae Aw Al Aj Bg Ai Bd Aq) {m:Nat}:FnOk P w K mg base Cu 1 f fd ["self", "loss"] (Ds (A8.mk Ac Ah Ag Am Au Bc Ba At) m Au):=by
 have sc:=Tw;bv_omega
 ·obtain⟨_,_,_,_,rfl,_⟩:=h
  rfl
 obtain⟨p,t,l,x,rfl,hp,hc,hg,⟨ev,n,ht⟩,q⟩:=h;obtain⟨c,rfl⟩:=QU (κ:=A8.mk Ac Ah Ag Am Au Bc Ba At) (IV L) hc;unfold hT at q;unfold CdAt at hp;obtain⟨_,dx,e,hp⟩:=hp;cases e;refine⟨_,(Ao (Be (Hf Vq (Bh Bp (pv 1) (Dk T.g_CENTS rfl) (fun _ _=>rfl)) (Cq (pv 0) rfl) (Bm _)))),?_⟩;exact (vE rfl (vI rfl rfl (SqT.of ht) rfl (vE rfl ⟨p,_,dx,_,_,rfl,hp,L.cl_Over,L.na_Over_cents,FD c,_,_,rfl,rfl,q⟩)))
theorem Xq:Bb ["self", "loss"] ["self", "loss"] (As Kc):=by injections
theorem Xt {f:Addr} {fd:zCC} (F:Fun K "holds" "Not.holds" Kc f fd) (L:Kl K mg Ac Ah Ag Am Au Bc Ba At Ae Aw Al Aj Bg Ai Bd Aq) {m:Nat} (Mholds:Px P w K mg base m (A8.Fam (A8.mk Ac Ah Ag Am Au Bc Ba At)) "holds" ["self", "loss"] (Ds (A8.mk Ac Ah Ag Am Au Bc Ba At) m)):FnOk P w K mg base Cu (m+1) f fd ["self", "loss"] (Ds (A8.mk Ac Ah Ag Am Au Bc Ba At) (m+1) Bc):=by
 have sc:=Xq;bv_omega
 ·obtain⟨_,_,_,_,rfl,_⟩:=h
  rfl
 obtain⟨p,t,l,x,rfl,hp,hc,hg,hl,q⟩:=h;obtain⟨u,rfl⟩:=RB (κ:=A8.mk Ac Ah Ag Am Au Bc Ba At) (IV L) hc;unfold hT at q;unfold Ow at hg;unfold CdAt at hp;obtain⟨_,dx,v,e,hp,hu⟩:=hp;cases e;obtain⟨pu,du,fu,rfl,eu,n1,_⟩:=hu.obj;refine⟨_,(Ao (Be (G3 (Gh Mholds (hr.mono (by lia)) (Cq (pv 0) rfl) (Aa (pv 1) Af))))),?_⟩;refine (vE rfl ⟨p,_,dx,_,_,rfl,hp,L.cl_Not,L.na_Not_part,M0 _ _,pu,_,du,fu,rfl,eu,A8.fam _ u,n1,_,rfl,pu,u,l,x,rfl,hu,rfl,by lia,hl,?_⟩);exact (vE rfl q)
theorem Xz:Bb ["self", "loss", "part"] ["self", "loss"] (As Jo):=by injections
theorem Xe {f:Addr} {fd:zCC} (F:Fun K "holds" "All.holds" Jo f fd) (L:Kl K mg Ac Ah Ag Am Au Bc Ba At Ae Aw Al Aj Bg Ai Bd Aq) {m:Nat} (Mholds:Px P w K mg base m (A8.Fam (A8.mk Ac Ah Ag Am Au Bc Ba At)) "holds" ["self", "loss"] (Ds (A8.mk Ac Ah Ag Am Au Bc Ba At) m)):FnOk P w K mg base Cu (m+1) f fd ["self", "loss"] (Ds (A8.mk Ac Ah Ag Am Au Bc Ba At) (m+1) Ba):=by
 have sc:=Xz;bv_omega
 ·obtain⟨_,_,_,_,rfl,_⟩:=h
  rfl
 obtain⟨p,t,l,x,rfl,hp,hc,hg,hl,q⟩:=h;obtain⟨ts,rfl⟩:=RE (κ:=A8.mk Ac Ah Ag Am Au Bc Ba At) (IV L) hc;unfold hT at q;unfold Ow at hg;unfold CdAt at hp;obtain⟨_,dx,a,vs,e,hp,ha,hv⟩:=hp;cases e;refine⟨_,(Ad (Cm PassesOwn.never rfl (Cb (Cq (pv 0) rfl)) (Az (i:=2) sc.nd rfl (Or.inl rfl))
    (Ao (Bv (Dh (Cy (Gh Mholds (hr.mono (by lia)) (pv 2) (Aa (pv 1) Af))))
    (Ao (Be Ej))
    Bl)))
   (Ao (Be Ej))),?_⟩
 have hlen:=hv.len;refine (vE rfl ⟨p,_,dx,_,_,rfl,hp,L.cl_All,L.na_All_several,M0 _ _,a,rfl,⟨_,SqL.of ha⟩,?_⟩);refine Dg (K:=K) (a:=a) (xs:=vs) (fun i σ H2=>(∃ o,σ=[some (.ref p),some (.ref l),o])/\H2=H/\hAll ts x=hAll (ts.drop i) x) ⟨⟨none,rfl⟩,rfl,rfl⟩ (fun i σ H2 _ ⟨_,e,_⟩=>by rw[e]; exact SqL.of ha) ?_ ?_
 ·rintro i v σ H2 hi ⟨⟨o,rfl⟩,rfl,e⟩
  obtain⟨u,eu,hu⟩:=hv.get hi;rw[Z3 eu] at e;obtain⟨pu,du,fu,rfl,ob,n1,_⟩:=hu.obj;refine (vE rfl ⟨pu,_,du,fu,rfl,ob,A8.fam _ u,n1,_,rfl,pu,u,l,x,rfl,hu,rfl,Qh (by lia) i eu,hl,?_⟩);cases hb:hT u x with
  | true=>
   rw[hb,Bool.true_and] at e;exact (vE rfl (Dy ⟨⟨_,rfl⟩,rfl,e⟩))
  | false=>
   rw[hb,Bool.false_and] at e;rw[e] at q;exact (vE rfl (Po q))
 ·rintro σ H2 ⟨⟨o,rfl⟩,rfl,e⟩
  rw[hlen,zBD] at e;rw[e] at q;unfold hAll at q;exact q
theorem Tz:Bb ["self", "loss", "part"] ["self", "loss"] (As Jd):=by injections
theorem Uj {f:Addr} {fd:zCC} (F:Fun K "holds" "Some.holds" Jd f fd) (L:Kl K mg Ac Ah Ag Am Au Bc Ba At Ae Aw Al Aj Bg Ai Bd Aq) {m:Nat} (Mholds:Px P w K mg base m (A8.Fam (A8.mk Ac Ah Ag Am Au Bc Ba At)) "holds" ["self", "loss"] (Ds (A8.mk Ac Ah Ag Am Au Bc Ba At) m)):FnOk P w K mg base Cu (m+1) f fd ["self", "loss"] (Ds (A8.mk Ac Ah Ag Am Au Bc Ba At) (m+1) At):=by
 have sc:=Tz;bv_omega
 ·obtain⟨_,_,_,_,rfl,_⟩:=h
  rfl
 obtain⟨p,t,l,x,rfl,hp,hc,hg,hl,q⟩:=h;obtain⟨ts,rfl⟩:=RC (κ:=A8.mk Ac Ah Ag Am Au Bc Ba At) (IV L) hc;unfold hT at q;unfold Ow at hg;unfold CdAt at hp;obtain⟨_,dx,a,vs,e,hp,ha,hv⟩:=hp;cases e;refine⟨_,(Ad (Cm PassesOwn.never rfl (Cb (Cq (pv 0) rfl)) (Az (i:=2) sc.nd rfl (Or.inl rfl))
    (Ao (Bv (Cy (Gh Mholds (hr.mono (by lia)) (pv 2) (Aa (pv 1) Af)))
    (Ao (Be Ej))
    Bl)))
   (Ao (Be Ej))),?_⟩
 have hlen:=hv.len;refine (vE rfl ⟨p,_,dx,_,_,rfl,hp,L.cl_Some,L.na_Some_several,M0 _ _,a,rfl,⟨_,SqL.of ha⟩,?_⟩);refine Dg (K:=K) (a:=a) (xs:=vs) (fun i σ H2=>(∃ o,σ=[some (.ref p),some (.ref l),o])/\H2=H/\hSom ts x=hSom (ts.drop i) x) ⟨⟨none,rfl⟩,rfl,rfl⟩ (fun i σ H2 _ ⟨_,e,_⟩=>by rw[e]; exact SqL.of ha) ?_ ?_
 ·rintro i v σ H2 hi ⟨⟨o,rfl⟩,rfl,e⟩
  obtain⟨u,eu,hu⟩:=hv.get hi;rw[Z1 eu] at e;obtain⟨pu,du,fu,rfl,ob,n1,_⟩:=hu.obj;refine (vE rfl ⟨pu,_,du,fu,rfl,ob,A8.fam _ u,n1,_,rfl,pu,u,l,x,rfl,hu,rfl,Qh (by lia) i eu,hl,?_⟩);cases hb:hT u x with
  | false=>
   rw[hb,Bool.false_or] at e;exact (vE rfl (Dy ⟨⟨_,rfl⟩,rfl,e⟩))
  | true=>
   rw[hb,Bool.true_or] at e;rw[e] at q;exact (vE rfl (Po q))
 ·rintro σ H2 ⟨⟨o,rfl⟩,rfl,e⟩
  rw[hlen,zBD] at e;rw[e] at q;unfold hSom at q;exact q
end
inductive Cl where
 | own (y:Str) (d:Int) | lay (y:Str) (a b:Int) | lim (y:Str) (m:Int) | any (y:Str)
def Cl.way:Cl->Str
 | .own y _=>y
 | .lay y _ _=>y
 | .lim y _=>y
 | .any y=>y
def Gy:Cl->List (Str×V)
 | .own y d=>Bs "cents" (.int d) (Bs "by" (.str y) [])
 | .lay y a b=>Bs "upto" (.int b) (Bs "first" (.int a) (Bs "by" (.str y) []))
 | .lim y m=>Bs "most" (.int m) (Bs "by" (.str y) [])
 | .any y=>Bs "by" (.str y) []
def Pi (y:Str):Prop:=y = "event" \/ y = "thing" \/ y = "year" \/ y = "loss"
def MR (d:Int):Prop:=0<=d/\d<=999999999999
def Ie (CC CO CL CM:Addr):Cl->Addr
 | .own _ _=>CO
 | .lay _ _ _=>CL
 | .lim _ _=>CM
 | .any _=>CC
def ClAt (CC CO CL CM:Addr) (H:Hp) (p:Addr) (c:Cl):Prop:=∃ dx,H p=some (.ins (Ie CC CO CL CM c) dx (Gy c))
def Fam (CC CO CL CM:Addr) (C:Addr):Prop:=C=CC\/C=CO\/C=CL\/C=CM
theorem ClAt.same {CC CO CL CM:Addr} {H H':Hp} {p:Addr} {c:Cl} (h:ClAt CC CO CL CM H p c) (s:Same H H'):ClAt CC CO CL CM H' p c:=by
 obtain⟨dx,e⟩:=h;exact⟨dx,s _ _ e⟩
theorem L4 (CC CO CL CM:Addr) (c:Cl):Fam CC CO CL CM (Ie CC CO CL CM c):=by
 cases c with
 | own _ _=>exact .inr (.inl rfl)
 | lay _ _ _=>exact .inr (.inr (.inl rfl))
 | lim _ _=>exact .inr (.inr (.inr rfl))
 | any _=>exact .inl rfl
theorem KF {y:Str} (h:Pi y):LK (.str y) [.str "event",.str "thing",.str "year",.str "loss"]=true:=by
 rcases h with rfl | rfl | rfl | rfl <;> decide +kernel
theorem OU:¬ (("by" : Str) = "cents"):=by ac_nf
theorem OP:¬ (("by" : Str) = "upto"):=by ac_nf
theorem PB:¬ (("by" : Str) = "first"):=by ac_nf
theorem ON:¬ (("by" : Str) = "most"):=by ac_nf
theorem PV:¬ (("first" : Str) = "upto"):=by ac_nf
theorem DP (c:Cl):(Gy c).lookup ("by" : Str)=some (.str c.way):=by
 cases c with
 | own y d=>unfold Gy; rw[Bi,if_neg OU,Bi,if_pos rfl]; rfl
 | lay y a b=>unfold Gy; rw[Bi,if_neg OP,Bi,if_neg PB,Bi,if_pos rfl]; rfl
 | lim y m=>unfold Gy; rw[Bi,if_neg ON,Bi,if_pos rfl]; rfl
 | any y=>unfold Gy; rw[Bi,if_pos rfl]; rfl
theorem EH (y:Str) (d:Int):(Gy (.own y d)).lookup ("cents" : Str)=some (.int d):=by unfold Gy; rw[Bi,if_pos rfl]
theorem GP (y:Str) (a b:Int):(Gy (.lay y a b)).lookup ("upto" : Str)=some (.int b):=by unfold Gy; rw[Bi,if_pos rfl]
theorem FH (y:Str) (a b:Int):(Gy (.lay y a b)).lookup ("first" : Str)=some (.int a):=by unfold Gy; rw[Bi,if_neg PV,Bi,if_pos rfl]
theorem HV (y:Str) (m:Int):(Gy (.lim y m)).lookup ("most" : Str)=some (.int m):=by unfold Gy; rw[Bi,if_pos rfl]
theorem DI (c:Cl) {m:Str} (h1:¬ m = "by") (h2:¬ m = "cents") (h3:¬ m = "first") (h4:¬ m = "upto") (h5:¬ m = "most"):(Gy c).lookup m=none:=by
 cases c with
 | own y d=>unfold Gy; rw[Bi,if_neg h2,Bi,if_neg h1]; rfl
 | lay y a b=>unfold Gy; rw[Bi,if_neg h4,Bi,if_neg h3,Bi,if_neg h1]; rfl
 | lim y n=>unfold Gy; rw[Bi,if_neg h5,Bi,if_neg h1]; rfl
 | any y=>unfold Gy; rw[Bi,if_neg h1]; rfl
theorem HU (c:Cl):(Gy c).lookup ("span" : Str)=none:=DI c (by ac_nf) (by ac_nf) (by ac_nf) (by ac_nf) (by ac_nf)
theorem GJ (c:Cl):(Gy c).lookup ("room" : Str)=none:=DI c (by ac_nf) (by ac_nf) (by ac_nf) (by ac_nf) (by ac_nf)
def N5 (b n k:Int):Int:=CR.minI (CR.maxI (b-n) 0) k
def NM:Cl->Int->Int->Int
 | .own _ d,n,k=>N5 d n k
 | .lay _ a _,n,k=>N5 a n k
 | _,_,_=>0
def NH:Cl->Int->Int->Int
 | .lay _ _ b,n,k=>N5 b n k
 | _,_,k=>k
def Kw:Cl->Int->V
 | .lim _ m,n=>.int (CR.maxI (m-n) 0)
 | _,_=>.non
def B3:Sp:=fun vs H Q _=>∃ n:Int,vs=[.int n]/\MR n/\Q (.int n) H
def Wm:Sp:=fun vs H Q _=>∃ b n k:Int,vs=[.int b,.int n,.int k]/\Q (.int (N5 b n k)) H
def CG (CC CO CL CM:Addr):Sp:=fun vs H Q _=>∃ p C dx fs y,vs=[.ref p,.str y]/\H p=some (.ins C dx fs)/\Fam CC CO CL CM C/\fs.length<1000/\Pi y/\Q .non (upd H p (.ins C dx (Bs "by" (.str y) fs)))
def FJ (CC CO CL CM:Addr):Sp:=fun vs H Q _=>∃ p dx y,∃ d:Int,vs=[.ref p,.str y,.int d]/\H p=some (.ins CO dx [])/\Pi y/\MR d/\∀ H',(∀ b o,H b=some o->b≠p->H' b=some o)->ClAt CC CO CL CM H' p (.own y d)->Q .non H'
def EU (CC CO CL CM:Addr):Sp:=fun vs H Q _=>∃ p dx y,∃ a b:Int,vs=[.ref p,.str y,.int a,.int b]/\H p=some (.ins CL dx [])/\Pi y/\MR a/\MR b/\a<b/\∀ H',(∀ b o,H b=some o->b≠p->H' b=some o)->ClAt CC CO CL CM H' p (.lay y a b)->Q .non H'
def CU (CC CO CL CM:Addr):Sp:=fun vs H Q _=>∃ p dx y,∃ d:Int,vs=[.ref p,.str y,.int d]/\H p=some (.ins CM dx [])/\Pi y/\MR d/\∀ H',(∀ b o,H b=some o->b≠p->H' b=some o)->ClAt CC CO CL CM H' p (.lim y d)->Q .non H'
def Qy (CC CO CL CM:Addr) (C:Addr):Sp:=fun vs H Q _=>∃ p c,∃ n k:Int,vs=[.ref p,.int n,.int k]/\ClAt CC CO CL CM H p c/\Ie CC CO CL CM c=C/\∀ t H',Same H H'->H' t=some (.tup [.int (NM c n k),.int (NH c n k)])->Q (.ref t) H'
def Wr (CC CO CL CM:Addr) (C:Addr):Sp:=fun vs H Q _=>∃ p c,∃ n:Int,vs=[.ref p,.int n]/\ClAt CC CO CL CM H p c/\Ie CC CO CL CM c=C/\Q (Kw c n) H
theorem CA {K:zAa}:zAR K (.type "str") (.type "str")=some true:=by kernel_rfl
section
variable {P:Program} {w:World} {K:zAa} {mg:Str->Option Value} {base:Heap} {Ac Ah Ag Am Au Bc Ba At Ae Aw Al Aj Bg Ai Bd Aq:Addr}
theorem R4 (L:Kl K mg Ac Ah Ag Am Au Bc Ba At Ae Aw Al Aj Bg Ai Bd Aq) {c:Cl} (h:Ie Ae Aw Al Aj c=Ae):∃ y,c = .any y:=by
 have nd:([Ae,Aw,Al,Aj,Bg,Ai,Bd,Aq]:List Addr).Nodup:=by
  have nd0:=List.Nodup.sublist (zBR 8 _) L.nd;exact nd0
 simp only [zAT,zAo,zBa,not_or,or_false] at nd;cases c with
 | any y=>exact⟨y,rfl⟩
 | own _ _=>exact absurd (show Aw=Ae from h).symm nd.1.1
 | lay _ _ _=>exact absurd (show Al=Ae from h).symm nd.1.2.1
 | lim _ _=>exact absurd (show Aj=Ae from h).symm nd.1.2.2.1
theorem Q9 (L:Kl K mg Ac Ah Ag Am Au Bc Ba At Ae Aw Al Aj Bg Ai Bd Aq) {c:Cl} (h:Ie Ae Aw Al Aj c=Aw):∃ y d,c = .own y d:=by
 have nd:([Ae,Aw,Al,Aj,Bg,Ai,Bd,Aq]:List Addr).Nodup:=by
  have nd0:=List.Nodup.sublist (zBR 8 _) L.nd;exact nd0
 simp only [zAT,zAo,zBa,not_or,or_false] at nd;cases c with
 | own y d=>exact⟨y,d,rfl⟩
 | any _=>exact absurd (show Ae=Aw from h) nd.1.1
 | lay _ _ _=>exact absurd (show Al=Aw from h).symm nd.2.1.1
 | lim _ _=>exact absurd (show Aj=Aw from h).symm nd.2.1.2.1
theorem Q4 (L:Kl K mg Ac Ah Ag Am Au Bc Ba At Ae Aw Al Aj Bg Ai Bd Aq) {c:Cl} (h:Ie Ae Aw Al Aj c=Al):∃ y a b,c = .lay y a b:=by
 have nd:([Ae,Aw,Al,Aj,Bg,Ai,Bd,Aq]:List Addr).Nodup:=by
  have nd0:=List.Nodup.sublist (zBR 8 _) L.nd;exact nd0
 simp only [zAT,zAo,zBa,not_or,or_false] at nd;cases c with
 | lay y a b=>exact⟨y,a,b,rfl⟩
 | any _=>exact absurd (show Ae=Al from h) nd.1.2.1
 | own _ _=>exact absurd (show Aw=Al from h) nd.2.1.1
 | lim _ _=>exact absurd (show Aj=Al from h).symm nd.2.2.1.1
theorem V9 (L:Kl K mg Ac Ah Ag Am Au Bc Ba At Ae Aw Al Aj Bg Ai Bd Aq) {c:Cl} (h:Ie Ae Aw Al Aj c=Aj):∃ y m,c = .lim y m:=by
 have nd:([Ae,Aw,Al,Aj,Bg,Ai,Bd,Aq]:List Addr).Nodup:=by
  have nd0:=List.Nodup.sublist (zBR 8 _) L.nd;exact nd0
 simp only [zAT,zAo,zBa,not_or,or_false] at nd;cases c with
 | lim y m=>exact⟨y,m,rfl⟩
 | any _=>exact absurd (show Ae=Aj from h) nd.1.2.2.1
 | own _ _=>exact absurd (show Aw=Aj from h) nd.2.1.2.1
 | lay _ _ _=>exact absurd (show Al=Aj from h) nd.2.2.1.1
theorem Mz:Bb ["thing"] ["thing"] (As Fc):=by injections
theorem Ni {f:Addr} {fd:zCC} (F:Fun K "checked_amount" "checked_amount" Fc f fd) (T:Txt K mg) (Cis_amount:Cn P w K mg base 2 "is_amount" ["thing"] (CD K 999999999999)):FnOk P w K mg base Cu 3 f fd ["thing"] B3:=by
 have sc:=Mz;bv_omega
 ·obtain⟨_,rfl,_⟩:=h
  rfl
 obtain⟨n,rfl,⟨h0,h1⟩,q⟩:=h;refine⟨_,(Ad (Bv (Dh (Cy (Ax Cis_amount (hr.mono (by decide)) rfl (Aa (pv 0) Af))))
    (Ao Em)
    Bl)
   (Ao (Be (pv 0)))),?_⟩
 refine (vE rfl ⟨_,_,rfl,.int n,_,rfl,?_⟩);rw[show NG 999999999999 (.int n)=true from decide_eq_true ⟨h0,h1⟩];exact Dy (vE rfl q)
theorem Lx:Bb ["self", "by"] ["self", "by"] (As Et):=by injections
theorem Lk {f:Addr} {fd:zCC} (F:Fun K "__init__" "Clause.__init__" Et f fd) (T:Txt K mg) (L:Kl K mg Ac Ah Ag Am Au Bc Ba At Ae Aw Al Aj Bg Ai Bd Aq):FnOk P w K mg base Cu 2 f fd ["self", "by"] (CG Ae Aw Al Aj):=by
 have sc:=Lx;bv_omega
 ·obtain⟨_,_,_,_,_,rfl,_⟩:=h
  rfl
 obtain⟨p,C,dx,fs,y,rfl,hp,fam,hl,hy,q⟩:=h;refine⟨_,(Ad (Bv (PW.pt (Hg (Dh (Cy (Bn Ct rfl T.n_isinstance (show zCB _=some (.builtin "isinstance") from rfl) (Aa (pv 1) (Aa (Ky "str" rfl T.n_str rfl) Af))))) (Gj (Bk Xc (pv 1) (HS T.t_WAYS rfl) rfl))))
    (Ao Em)
    Bl)
   (Ao (Cr (pv 0) (pv 1) rfl))),?_⟩
 refine (vE rfl ⟨_,_,_,_,_,rfl,Kx,.str y,CA,_,rfl,Dy ?_⟩);refine (vE rfl (fun a hs=>⟨a,_,rfl,.inr hs,rfl,rfl,vE rfl ?_⟩));show if (!LK (.str y) [.str "event",.str "thing",.str "year",.str "loss"])=true then _ else _;rw[KF hy];refine Dy ?_;have cl:Cls K C:=by
  rcases fam with rfl | rfl | rfl | rfl
  ·exact L.cl_Clause
  ·exact L.cl_Own
  ·exact L.cl_Layer
  ·exact L.cl_Limit
 have na:NoAttr K C "by" := by
  rcases fam with rfl | rfl | rfl | rfl
  ·exact L.na_Clause_by
  ·exact L.na_Own_by
  ·exact L.na_Layer_by
  ·exact L.na_Limit_by
 exact (vE rfl (vE rfl ⟨p,C,dx,fs,rfl,hp,cl,na,hl,q⟩))
theorem Qc:Bb ["self", "by", "cents"] ["self", "by", "cents"] (As Gp):=by injections
theorem Qd {f:Addr} {fd:zCC} (F:Fun K "__init__" "Own.__init__" Gp f fd) (T:Txt K mg) (L:Kl K mg Ac Ah Ag Am Au Bc Ba At Ae Aw Al Aj Bg Ai Bd Aq) (BClause___init__:EG P w K mg base 2 "Clause" "__init__" ["self", "by"] (CG Ae Aw Al Aj)) (Cchecked_amount:Cn P w K mg base 3 "checked_amount" ["thing"] B3) :
  FnOk P w K mg base Cu 4 f fd ["self", "by", "cents"] (FJ Ae Aw Al Aj):=by
 have sc:=Qc;bv_omega
 ·obtain⟨_,_,_,_,rfl,_⟩:=h
  rfl
 obtain⟨p,dx,y,d,rfl,hp,hy,hd,q⟩:=h;refine⟨_,(Ad (Cp (Rq BClause___init__ (hr.mono (by decide)) rfl (Aa (pv 0) (Aa (pv 1) Af))))
   (Ao (Cr (pv 0) (Ax Cchecked_amount (hr.mono (by decide)) rfl (Aa (pv 2) Af)) rfl))),?_⟩
 refine (vE rfl (vE rfl ⟨p,_,dx,[],y,rfl,hp,.inr (.inl rfl),by decide,hy,?_⟩));exact (vE rfl ⟨d,rfl,hd,_,rfl,p,_,dx,_,rfl,Ab,L.cl_Own,L.na_Own_cents,(by show 1<1000; decide),q _ (fun b o z n=>by rw[Ar n,Ar n]; exact z) ⟨dx,Ab⟩⟩)
theorem Ml:Bb ["self", "by", "first", "upto"] ["self", "by", "first", "upto"] (As Fa):=by injections
theorem Nb {f:Addr} {fd:zCC} (F:Fun K "__init__" "Layer.__init__" Fa f fd) (T:Txt K mg) (L:Kl K mg Ac Ah Ag Am Au Bc Ba At Ae Aw Al Aj Bg Ai Bd Aq) (BClause___init__:EG P w K mg base 2 "Clause" "__init__" ["self", "by"] (CG Ae Aw Al Aj)) (Cchecked_amount:Cn P w K mg base 3 "checked_amount" ["thing"] B3) :
  FnOk P w K mg base Cu 4 f fd ["self", "by", "first", "upto"] (EU Ae Aw Al Aj):=by
 have sc:=Ml;bv_omega
 ·obtain⟨_,_,_,_,_,rfl,_⟩:=h
  rfl
 obtain⟨p,dx,y,a,b,rfl,hp,hy,ha,hb,hab,q⟩:=h;refine⟨_,(Ad (Cp (Rq BClause___init__ (hr.mono (by decide)) rfl (Aa (pv 0) (Aa (pv 1) Af))))
   (Ad (Cr (pv 0) (Ax Cchecked_amount (hr.mono (by decide)) rfl (Aa (pv 2) Af)) rfl)
   (Ad (Cr (pv 0) (Ax Cchecked_amount (hr.mono (by decide)) rfl (Aa (pv 3) Af)) rfl)
   (Ao (Bv (Dh (Bk Fw (pv 2) (pv 3) (Bm _)))
    (Ao Em)
    Bl))))),?_⟩
 refine (vE rfl (vE rfl ⟨p,_,dx,[],y,rfl,hp,.inr (.inr (.inl rfl)),by decide,hy,?_⟩));refine (vE rfl ⟨a,rfl,ha,_,rfl,p,_,dx,_,rfl,Ab,L.cl_Layer,L.na_Layer_first,(by show 1<1000; decide),?_⟩);refine (vE rfl ⟨b,rfl,hb,_,rfl,p,_,dx,_,rfl,Ab,L.cl_Layer,L.na_Layer_upto,(by show 2<1000; decide),?_⟩);refine (vE rfl (vE rfl (vF rfl rfl (vE rfl (nF hab ?_)))));exact q _ (fun b o z n=>by rw[Ar n,Ar n,Ar n]; exact z) ⟨dx,Ab⟩
theorem Mo:Bb ["self", "by", "most"] ["self", "by", "most"] (As Fd):=by injections
theorem Mi {f:Addr} {fd:zCC} (F:Fun K "__init__" "Limit.__init__" Fd f fd) (T:Txt K mg) (L:Kl K mg Ac Ah Ag Am Au Bc Ba At Ae Aw Al Aj Bg Ai Bd Aq) (BClause___init__:EG P w K mg base 2 "Clause" "__init__" ["self", "by"] (CG Ae Aw Al Aj)) (Cchecked_amount:Cn P w K mg base 3 "checked_amount" ["thing"] B3) :
  FnOk P w K mg base Cu 4 f fd ["self", "by", "most"] (CU Ae Aw Al Aj):=by
 have sc:=Mo;bv_omega
 ·obtain⟨_,_,_,_,rfl,_⟩:=h
  rfl
 obtain⟨p,dx,y,d,rfl,hp,hy,hd,q⟩:=h;refine⟨_,(Ad (Cp (Rq BClause___init__ (hr.mono (by decide)) rfl (Aa (pv 0) (Aa (pv 1) Af))))
   (Ao (Cr (pv 0) (Ax Cchecked_amount (hr.mono (by decide)) rfl (Aa (pv 2) Af)) rfl))),?_⟩
 refine (vE rfl (vE rfl ⟨p,_,dx,[],y,rfl,hp,.inr (.inr (.inr rfl)),by decide,hy,?_⟩));exact (vE rfl ⟨d,rfl,hd,_,rfl,p,_,dx,_,rfl,Ab,L.cl_Limit,L.na_Limit_most,(by show 1<1000; decide),q _ (fun b o z n=>by rw[Ar n,Ar n]; exact z) ⟨dx,Ab⟩⟩)
def GY (y:Str) (n d:Int) (ev th:Str):V:=if y = "event" then .str ev else if y = "thing" then .str th else if y = "year" then .int (d/365) else .int n
theorem JD (c:Cl):(Gy c).lookup ("key" : Str)=none:=DI c (by ac_nf) (by ac_nf) (by ac_nf) (by ac_nf) (by ac_nf)
def DT (CC CO CL CM:Addr) (C:Addr):Sp:=fun vs H Q _=>∃ p c t ev th ca,∃ n d ct:Int,vs=[.ref p,.ref t]/\ClAt CC CO CL CM H p c/\Ie CC CO CL CM c=C/\H t=some (.tup [.int n,.int d,.str ev,.str th,.str ca,.int ct])/\Q (GY c.way n d ev th) H
def J4:Sp:=fun vs H Q _=>∃ d:Int,vs=[.int d]/\Q (.int (d/365)) H
theorem GZ (L:Kl K mg Ac Ah Ag Am Au Bc Ba At Ae Aw Al Aj Bg Ai Bd Aq) (c:Cl):Cls K (Ie Ae Aw Al Aj c)/\NoAttr K (Ie Ae Aw Al Aj c) "by" := by
 cases c with
 | own _ _=>exact⟨L.cl_Own,L.na_Own_by⟩
 | lay _ _ _=>exact⟨L.cl_Layer,L.na_Layer_by⟩
 | lim _ _=>exact⟨L.cl_Limit,L.na_Limit_by⟩
 | any _=>exact⟨L.cl_Clause,L.na_Clause_by⟩
theorem M8:Bb ["day"] ["day"] (As Ny):=by injections
theorem M7 {f:Addr} {fd:zCC} (F:Fun K "year_of" "year_of" Ny f fd) (T:Txt K mg):FnOk P w K mg base Cu 1 f fd ["day"] J4:=by
 have sc:=M8;bv_omega
 ·obtain⟨_,rfl,_⟩:=h
  rfl
 obtain⟨d,rfl,q⟩:=h;refine⟨_,(Ao (Be (Ay Bw (pv 0) (Dk T.g_DAYS_OF_YEAR rfl)))),?_⟩;exact (vE rfl (vF rfl rfl ⟨⟨by decide,by decide⟩,q⟩))
theorem Ub:Bb ["self", "loss"] ["self", "loss"] (As Iy):=by injections
theorem Fe {f:Addr} {fd:zCC} (F:Fun K "key" "Clause.key" Iy f fd) (T:Txt K mg) (L:Kl K mg Ac Ah Ag Am Au Bc Ba At Ae Aw Al Aj Bg Ai Bd Aq) (Cyear_of:Cn P w K mg base 1 "year_of" ["day"] J4) {C:Addr}:FnOk P w K mg base Cu 2 f fd ["self", "loss"] (DT Ae Aw Al Aj C):=by
 have sc:=Ub;bv_omega
 ·obtain⟨_,_,_,_,_,_,_,_,_,rfl,_⟩:=h
  rfl
 obtain⟨p,c,t,ev,th,ca,n,d,ct,rfl,⟨dx,hp⟩,hc,ht,q⟩:=h;obtain⟨cl,na⟩:=GZ L c;refine⟨_,(Ad (Bv (Bk Db (Cq (pv 0) rfl) Ca (Bm _))
    (Ao (Be (Bh Bp (pv 1) (Dk T.g_EVENT rfl) (fun _ _=>rfl))))
    Bl)
   (Ad (Bv (Bk Db (Cq (pv 0) rfl) Ca (Bm _))
    (Ao (Be (Bh Bp (pv 1) (Dk T.g_THING rfl) (fun _ _=>rfl))))
    Bl)
   (Ad (Bv (Bk Db (Cq (pv 0) rfl) Ca (Bm _))
    (Ao (Be (Ax Cyear_of (hr.mono (by decide)) rfl (Aa (Bh Bp (pv 1) (Dk T.g_DAY rfl) (fun _ _=>rfl)) Af))))
    Bl)
   (Ao (Be (Bh Bp (pv 1) (Dk T.g_NUMBER rfl) (fun _ _=>rfl))))))),?_⟩
 unfold GY at q;refine (vE rfl ⟨p,_,dx,_,_,rfl,hp,cl,na,DP c,rfl,vE rfl (Su (fun e=>?_) (fun e=>?_))⟩)
 ·have e':c.way = "event" := by injection of_decide_eq_true e
  rw[if_pos e'] at q;exact (vE rfl (vI rfl rfl (SqT.of ht) rfl q))
 ·have e':¬ c.way = "event" := fun z=>e (decide_eq_true (by rw[z]))
  rw[if_neg e'] at q;refine (vE rfl ⟨p,_,dx,_,_,rfl,hp,cl,na,DP c,rfl,vE rfl (Su (fun f=>?_) (fun f=>?_))⟩)
  ·have f':c.way = "thing" := by injection of_decide_eq_true f
   rw[if_pos f'] at q;exact (vE rfl (vI rfl rfl (SqT.of ht) rfl q))
  ·have f':¬ c.way = "thing" := fun z=>f (decide_eq_true (by rw[z]))
   rw[if_neg f'] at q;refine (vE rfl ⟨p,_,dx,_,_,rfl,hp,cl,na,DP c,rfl,vE rfl (Su (fun g=>?_) (fun g=>?_))⟩)
   ·have g':c.way = "year" := by injection of_decide_eq_true g
    rw[if_pos g'] at q;exact (vE rfl (vI rfl rfl (SqT.of ht) rfl ⟨d,rfl,q⟩))
   ·have g':¬ c.way = "year" := fun z=>g (decide_eq_true (by rw[z]))
    rw[if_neg g'] at q;exact (vE rfl (vI rfl rfl (SqT.of ht) rfl q))
theorem P7:Bb ["bound", "count", "cents"] ["bound", "count", "cents"] (As Ol):=by injections
theorem P1 {f:Addr} {fd:zCC} (F:Fun K "cent_at" "cent_at" Ol f fd) (T:Txt K mg):FnOk P w K mg base Cu 1 f fd ["bound", "count", "cents"] Wm:=by
 have sc:=P7;bv_omega
 ·obtain⟨_,_,_,rfl,_⟩:=h
  rfl
 obtain⟨b,n,k,rfl,q⟩:=h;refine⟨_,(Ao (Be (Bn (Ib rfl) rfl T.n_min (show zCB _=some (.builtin "min") from rfl) (Aa (Bn (Ig rfl) rfl T.n_max (show zCB _=some (.builtin "max") from rfl) (Aa (Ay Ly (pv 0) (pv 1)) (Aa Ak Af))) (Aa (pv 2) Af))))),?_⟩;exact (vE rfl (vE rfl (vF rfl rfl ⟨_,_,rfl,vE rfl ⟨_,_,rfl,q⟩⟩)))
theorem Sk:Bb ["self", "count", "cents"] ["self", "count", "cents"] (As Hj):=by injections
theorem Jl {f:Addr} {fd:zCC} (F:Fun K "span" "Clause.span" Hj f fd) (T:Txt K mg) {C:Addr} (hC:∀ c,Ie Ae Aw Al Aj c=C->∀ n k,NM c n k=0/\NH c n k=k):FnOk P w K mg base Cu 2 f fd ["self", "count", "cents"] (Qy Ae Aw Al Aj C):=by
 have sc:=Sk;bv_omega
 ·obtain⟨_,_,_,_,rfl,_⟩:=h
  rfl
 obtain⟨p,c,n,k,rfl,hp,hc,q⟩:=h;refine⟨_,(Ao (Be (Cc (Aa Ak (Aa (pv 2) Af))))),?_⟩;obtain⟨e1,e2⟩:=hC c hc n k;rw[e1,e2] at q;exact (vE rfl ⟨by show 2<=sizeLine; rw[zCA]; decide,fun t ht=>q t _ (An ht _) Ab⟩)
theorem E1:Bb ["self", "count", "cents"] ["self", "count", "cents"] (As Lj):=by injections
theorem Zl {f:Addr} {fd:zCC} (F:Fun K "span" "Own.span" Lj f fd) (T:Txt K mg) (L:Kl K mg Ac Ah Ag Am Au Bc Ba At Ae Aw Al Aj Bg Ai Bd Aq) (Ccent_at:Cn P w K mg base 1 "cent_at" ["bound", "count", "cents"] Wm):FnOk P w K mg base Cu 2 f fd ["self", "count", "cents"] (Qy Ae Aw Al Aj Aw):=by
 have sc:=E1;bv_omega
 ·obtain⟨_,_,_,_,rfl,_⟩:=h
  rfl
 obtain⟨p,c,n,k,rfl,⟨dx,hp⟩,hc,q⟩:=h;obtain⟨y,d,rfl⟩:=Q9 L hc;refine⟨_,(Ao (Be (Cc (Aa (Ax Ccent_at (hr.mono (by decide)) rfl (Aa (Cq (pv 0) rfl) (Aa (pv 1) (Aa (pv 2) Af)))) (Aa (pv 2) Af))))),?_⟩;exact (vE rfl ⟨p,_,dx,_,_,rfl,hp,L.cl_Own,L.na_Own_cents,EH y d,_,rfl,vE rfl ⟨d,n,k,rfl,vE rfl ⟨by show 2<=sizeLine; rw[zCA]; decide,fun t ht=>q t _ (An ht _) Ab⟩⟩⟩)
theorem Tp:Bb ["self", "count", "cents"] ["self", "count", "cents"] (As Ix):=by injections
theorem Ur {f:Addr} {fd:zCC} (F:Fun K "span" "Layer.span" Ix f fd) (T:Txt K mg) (L:Kl K mg Ac Ah Ag Am Au Bc Ba At Ae Aw Al Aj Bg Ai Bd Aq) (Ccent_at:Cn P w K mg base 1 "cent_at" ["bound", "count", "cents"] Wm):FnOk P w K mg base Cu 2 f fd ["self", "count", "cents"] (Qy Ae Aw Al Aj Al):=by
 have sc:=Tp;bv_omega
 ·obtain⟨_,_,_,_,rfl,_⟩:=h
  rfl
 obtain⟨p,c,n,k,rfl,⟨dx,hp⟩,hc,q⟩:=h;obtain⟨y,a,b,rfl⟩:=Q4 L hc;refine⟨_,(Ao (Be (Cc (Aa (Ax Ccent_at (hr.mono (by decide)) rfl (Aa (Cq (pv 0) rfl) (Aa (pv 1) (Aa (pv 2) Af)))) (Aa (Ax Ccent_at (hr.mono (by decide)) rfl (Aa (Cq (pv 0) rfl) (Aa (pv 1) (Aa (pv 2) Af)))) Af))))),?_⟩;exact (vE rfl ⟨p,_,dx,_,_,rfl,hp,L.cl_Layer,L.na_Layer_first,FH y a b,_,rfl,vE rfl ⟨a,n,k,rfl,vE rfl ⟨p,_,dx,_,_,rfl,hp,L.cl_Layer,L.na_Layer_upto,GP y a b,_,rfl,vE rfl ⟨b,n,k,rfl,by show 2<=sizeLine; rw[zCA]; decide,fun t ht=>q t _ (An ht _) Ab⟩⟩⟩⟩)
theorem Sd:Bb ["self", "paid"] ["self", "paid"] (As Hn):=by injections
theorem Gk {f:Addr} {fd:zCC} (F:Fun K "room" "Clause.room" Hn f fd) (T:Txt K mg) {C:Addr} (hC:∀ c,Ie Ae Aw Al Aj c=C->∀ n,Kw c n = .non):FnOk P w K mg base Cu 1 f fd ["self", "paid"] (Wr Ae Aw Al Aj C):=by
 have sc:=Sd;bv_omega
 ·obtain⟨_,_,_,rfl,_⟩:=h
  rfl
 obtain⟨p,c,n,rfl,hp,hc,q⟩:=h;refine⟨_,(Ao (Be Gu)),?_⟩;rw[hC c hc n] at q;exact q
theorem Uq:Bb ["self", "paid"] ["self", "paid"] (As Il):=by injections
theorem Tt {f:Addr} {fd:zCC} (F:Fun K "room" "Limit.room" Il f fd) (T:Txt K mg) (L:Kl K mg Ac Ah Ag Am Au Bc Ba At Ae Aw Al Aj Bg Ai Bd Aq):FnOk P w K mg base Cu 1 f fd ["self", "paid"] (Wr Ae Aw Al Aj Aj):=by
 have sc:=Uq;bv_omega
 ·obtain⟨_,_,_,rfl,_⟩:=h
  rfl
 obtain⟨p,c,n,rfl,⟨dx,hp⟩,hc,q⟩:=h;obtain⟨y,m,rfl⟩:=V9 L hc;refine⟨_,(Ao (Be (Bn (Ig rfl) rfl T.n_max (show zCB _=some (.builtin "max") from rfl) (Aa (Ay Ly (Cq (pv 0) rfl) (pv 1)) (Aa Ak Af))))),?_⟩;exact (vE rfl ⟨p,_,dx,_,_,rfl,hp,L.cl_Limit,L.na_Limit_most,HV y m,_,rfl,vF rfl rfl ⟨_,_,rfl,q⟩⟩)
end
def Prs (H:Hp):List V->List CR.Rn->Prop
 | [],[]=>True
 | x::xs,p::ps=>(∃ t,x = .ref t/\H t=some (.tup [.int p.1,.int p.2]))/\Prs H xs ps
 | _,_=>False
def LP (H:Hp) (a:Addr) (ps:List CR.Rn):Prop:=∃ xs,H a=some (.lst xs)/\Prs H xs ps
theorem Prs.len {H:Hp}:∀ {xs:List V} {ps:List CR.Rn},Prs H xs ps->xs.length=ps.length
 | [],[],_=>rfl
 | [],_::_,h=>h.elim
 | _::_,[],h=>h.elim
 | x::xs,p::ps,h=>by rw[zAf,zAf,Prs.len h.2]
theorem Prs.mono {H H':Hp} (s:HL H H'):∀ {xs:List V} {ps:List CR.Rn},Prs H xs ps->Prs H' xs ps
 | [],[],_=>trivial
 | [],_::_,h=>h.elim
 | _::_,[],h=>h.elim
 | x::xs,p::ps,⟨⟨t,e,h⟩,r⟩=>⟨⟨t,e,s _ _ h⟩,Prs.mono s r⟩
theorem Prs.get {H:Hp}:∀ {xs:List V} {ps:List CR.Rn} {i:Nat} {x:V},Prs H xs ps->xs[i]?=some x->∃ t p,ps[i]?=some p/\x = .ref t/\H t=some (.tup [.int p.1,.int p.2])
 | [],[],_,_,_,e=>by simp at e
 | [],_::_,_,_,h,_=>h.elim
 | _::_,[],_,_,h,_=>h.elim
 | x::xs,p::ps,0,y,⟨⟨t,e,h⟩,r⟩,q=>by
  simp at q;subst q;exact⟨t,p,rfl,e,h⟩
 | x::xs,p::ps,i+1,y,⟨_,r⟩,q=>by
  obtain⟨t,p',h1,h2⟩:=Prs.get (i:=i) r (by simpa using q);exact⟨t,p',by simpa using h1,h2⟩
theorem Prs.app {H:Hp}:∀ {xs:List V} {ps:List CR.Rn} {ys:List V} {qs:List CR.Rn},Prs H xs ps->Prs H ys qs->Prs H (xs++ys) (ps++qs)
 | [],[],_,_,_,h=>h
 | [],_::_,_,_,h,_=>h.elim
 | _::_,[],_,_,h,_=>h.elim
 | x::xs,p::ps,_,_,⟨h,r⟩,q=>⟨h,Prs.app r q⟩
theorem Prs.one {H:Hp} {t:Addr} {a b:Int} (h:H t=some (.tup [.int a,.int b])):Prs H [.ref t] [(a,b)]:=⟨⟨t,rfl,h⟩,trivial⟩
theorem Prs.snoc {H:Hp} {xs:List V} {ps:List CR.Rn} {t:Addr} {a b:Int} (r:Prs H xs ps) (h:H t=some (.tup [.int a,.int b])):Prs H (xs++[.ref t]) (ps++[(a,b)]):=r.app (Prs.one h)
theorem LP.same {H H':Hp} {a:Addr} {ps:List CR.Rn} (s:Same H H') (h:LP H a ps):LP H' a ps:=by
 obtain⟨xs,h1,r⟩:=h;exact⟨xs,s _ _ h1,r.mono (Bq s)⟩
def W6:Sp:=fun vs H Q _=>∃ a ps,∃ lo hi:Int,vs=[.ref a,.int lo,.int hi]/\LP H a ps/\ps.length<=1000/\∀ r H',Same H H'->H r=none->LP H' r (CR.cutW ps lo hi)->Q (.ref r) H'
def NL:Sp:=fun vs H Q _=>∃ a ps,∃ n:Int,vs=[.ref a,.int n]/\LP H a ps/\ps.length<=1000/\∀ r H',Same H H'->H r=none->LP H' r (CR.lowW ps n)->Q (.ref r) H'
def KL:Sp:=fun vs H Q _=>∃ a ps,vs=[.ref a,.non]/\LP H a ps/\∀ r H',Same H H'->H r=none->LP H' r ps->Q (.ref r) H'
def Qs:Sp:=fun vs H Q E=>NL vs H Q E\/KL vs H Q E
def P3:Sp:=fun vs H Q _=>∃ t b qs,∃ p:CR.Rn,vs=[.ref t,.ref b]/\H t=some (.tup [.int p.1,.int p.2])/\LP H b qs/\qs.length<=1000/\∀ r H',Same H H'->H r=none->LP H' r (CR.leftW p.2 p.1 qs)->Q (.ref r) H'
def DR:Sp:=fun vs H Q _=>∃ a b ps qs,vs=[.ref a,.ref b]/\LP H a ps/\LP H b qs/\ps.length<=1000/\qs.length<=1000/\∀ r H',Same H H'->H r=none->LP H' r (CR.outW ps qs)->Q (.ref r) H'
section
variable {P:Program} {w:World} {K:zAa} {mg:Str->Option Value} {base:Heap}
theorem Um:Bb ["runs", "lo", "hi", "cut"] ["runs", "lo", "hi"] (As Jg):=by injections
theorem Uy {f:Addr} {fd:zCC} (F:Fun K "cut_within" "cut_within" Jg f fd) (T:Txt K mg):FnOk P w K mg base Cu 1 f fd ["runs", "lo", "hi"] W6:=by
 have sc:=Um;bv_omega
 ·obtain⟨_,_,_,_,rfl,_⟩:=h
  rfl
 obtain⟨a,ps,lo,hi,rfl,⟨xs,ha,pr⟩,hl,q⟩:=h;refine⟨_,(Ad (Kj (NC:=["run", "lo", "hi"]) (own:=["run"]) (cs:=["lo", "hi"]) (ix:=[1,2]) (j:=3) sc.nd rfl rfl rfl (CompScope.of rfl) rfl ⟨⟨rfl,.inl rfl,rfl⟩,⟨⟨rfl,.inl rfl,rfl⟩,trivial⟩⟩ (Cb (pv 0)) (fun _ _ _=>(Az (i:=0) (show (["run", "lo", "hi"]:List Str).Nodup from by ac_nf) rfl (Or.inl rfl))) (fun _ _ _=>Dd) (fun _ _ _=>(Cc (Aa (Bn (Ig rfl) rfl T.n_max (show zCB _=some (.builtin "max") from rfl) (Aa (Bh (Ee (K:=K) rfl) (pv 0) Ak (fun _ _=>rfl)) (Aa (pv 1) Af))) (Aa (Bn (Ib rfl) rfl T.n_min (show zCB _=some (.builtin "min") from rfl) (Aa (Bh (Ee (K:=K) rfl) (pv 0) Ak (fun _ _=>rfl)) (Aa (pv 2) Af))) Af)))))
   (Ao (Be (Dj (NC:=["run"]) (own:=["run"]) (cs:=[]) (ix:=[]) rfl (CompScope.of rfl) rfl trivial (Cb (pv 3)) (fun _ _ _=>(Az (i:=0) (show (["run"]:List Str).Nodup from by ac_nf) rfl (Or.inl rfl))) (fun _ _ _=>(Mg (Bk Fw (Bh (Ee (K:=K) rfl) (pv 0) Ak (fun _ _=>rfl)) (Bh (Ee (K:=K) rfl) (pv 0) Ak (fun _ _=>rfl)) (Bm _)))) (fun _ _ _=>(pv 0)))))),?_⟩
 have lx:=pr.len;refine (vE rfl ⟨a,rfl,⟨_,SqL.of ha⟩,fun c hc=>?_⟩);refine Ck (K:=K) (a:=a) (xs:=xs) (fun i ys H2=>Prs H2 ys ((ps.take i).map (CR.cutM lo hi))/\H2 c=some (.lst ys)/\Same H H2) ⟨trivial,Ab,An hc _⟩
  (fun i ys H2 _ ⟨e,h1,s1⟩=>⟨h1,by rw[e.len,zAb,zAx]; lia,SqL.of (s1 _ _ ha)⟩) (by rw[lx,zCA]; lia) (fun i x ys H2 hi' ⟨e,h1,s1⟩=>?_) (fun ys H2 ⟨e,h1,s1⟩=>?_)
 ·obtain⟨t,p,hp,rfl,ht⟩:=pr.get hi'
  have ht2:=s1 _ _ ht;refine (vE rfl (vI rfl rfl (SqT.of ht2) rfl (vE rfl ⟨_,_,rfl,vE rfl (vI rfl rfl (SqT.of ht2) rfl (vE rfl ⟨_,_,rfl,by show 2<=sizeLine; rw[zCA]; decide,fun u hu=>?_⟩))⟩)));have s2:=An hu (.tup [.int (CR.cutM lo hi p).1,.int (CR.cutM lo hi p).2]);refine⟨s2 _ _ h1,rfl,?_,Ab,fun x o z=>?_⟩
  ·rw[Bz hp,zAr]
   exact ((e.mono (Bq s2)).snoc (a:=(CR.cutM lo hi p).1) (b:=(CR.cutM lo hi p).2) Ab).mono (Df (s2 _ _ h1) _)
  ·rw[Ar (Ap z hc)]
   exact s2 _ _ (s1 x o z)
 have et:ps.take xs.length=ps:=by rw[lx]; exact zAE
 rw[et] at e;refine (vE rfl ⟨c,rfl,⟨_,SqL.of h1⟩,fun r hr'=>?_⟩);have ly:ys.length=ps.length:=by rw[e.len,zAb]
 refine Ck (K:=K) (a:=c) (xs:=ys) (fun i zs H3=>Prs H3 zs (((ps.map (CR.cutM lo hi)).take i).filter fun p=>decide (p.1<p.2))/\H3 r=some (.lst zs)/\Same H2 H3) ⟨trivial,Ab,An hr' _⟩
  (fun i zs H3 _ ⟨e',h1',s1'⟩=>⟨h1',?_,SqL.of (s1' _ _ h1)⟩) (by rw[ly,zCA]; lia) (fun i x zs H3 hi' ⟨e',h1',s1'⟩=>?_) (fun zs H3 ⟨e',h1',s1'⟩=>?_)
 ·rw[e'.len]
  refine zAG (zBg _ _) ?_;rw[zAx]
  lia
 ·obtain⟨t,p,hp,rfl,ht⟩:=e.get hi'
  have ht3:=s1' _ _ ht;refine (vE rfl (vI rfl rfl (SqT.of ht3) rfl (vE rfl (vI rfl rfl (SqT.of ht3) rfl (vF rfl rfl (vE rfl ?_))))));rw[Bz hp,List.filter_append];refine Su (fun c'=>?_) (fun c'=>?_)
  ·have c2:p.1<p.2:=of_decide_eq_true c'
   refine (vE rfl ⟨h1',rfl,?_,Ab,fun x o z=>?_⟩)
   ·rw[List.filter_cons,if_pos (decide_eq_true c2),zBO]
    exact (e'.snoc (a:=p.1) (b:=p.2) ht3).mono (Df h1' _)
   ·rw[Ar (Ap z hr')]
    exact s1' x o z
  ·have c2:¬ p.1<p.2:=of_decide_eq_false (zBc.mpr c')
   rw[List.filter_cons,if_neg (by rw[decide_eq_false c2]; exact zAl),zBO,zAY];exact⟨rfl,e',h1',s1'⟩
 ·have et':(ps.map (CR.cutM lo hi)).take ys.length=ps.map (CR.cutM lo hi):=by rw[ly,<- zAb (f:=CR.cutM lo hi)]; exact zAE
  rw[et'] at e';exact q r H3 (s1.trans s1') (s1.free hr') ⟨zs,h1',e'⟩
theorem Xh:Bb ["runs", "n", "kept", "left", "lo", "hi"] ["runs", "n"] (As Jw):=by injections
theorem Xb {f:Addr} {fd:zCC} (F:Fun K "lowest_of" "lowest_of" Jw f fd) (T:Txt K mg):FnOk P w K mg base Cu 1 f fd ["runs", "n"] Qs:=by
 have sc:=Xh;bv_omega
 ·rcases h with ⟨_,_,_,rfl,_⟩ | ⟨_,_,rfl,_⟩ <;> rfl
 refine⟨_,(Ad (Bv (Bk Ti (pv 1) Gu (Bm _))
    (Ao (Be (Dz De rfl T.n_list (show zCB _=some (.type "list") from rfl) (Aa (pv 0) Af))))
    Bl)
   (Ad (Bf (i:=2) sc.nd rfl (Or.inl rfl) (Cg Af))
   (Ad (Bf (i:=3) sc.nd rfl (Or.inl rfl) (pv 1))
   (Ad (Cm PassesOwn.never rfl (Cb (pv 0)) (Dw (n:=2) rfl (Bj (Az (i:=4) sc.nd rfl (Or.inl rfl)) (Bj (Az (i:=5) sc.nd rfl (Or.inl rfl)) Da)))
    (Ad (Bv (Bk Vq (pv 3) Ak (Bm _))
    (Ao (Cp (Gi PySem.F.plainAttrs_list PySem.F.slot_list_append PySem.F.type_list_append Dm (pv 2) (Aa (Cc (Aa (pv 4) (Aa (Bn (Ib rfl) rfl T.n_min (show zCB _=some (.builtin "min") from rfl) (Aa (pv 5) (Aa (Ay Cd (pv 4) (pv 3)) Af))) Af))) Af))))
    Bl)
   (Ao (Bf (i:=3) sc.nd rfl (Or.inl rfl) (Ay Ly (pv 3) (Ay Ly (pv 5) (pv 4)))))))
   (Ao (Be (pv 2))))))),?_⟩
 rcases h with ⟨a,ps,n,rfl,⟨xs,ha,pr⟩,hl,q⟩ | ⟨a,ps,rfl,⟨xs,ha,pr⟩,q⟩
 ·have lx:=pr.len
  refine (vE rfl ⟨rfl,vE rfl (dF (fun z=>nomatch z) ?_)⟩);refine⟨zAB _,fun r hr'=>?_⟩;have s1:Same H (upd H r (.lst [])):=An hr' _;refine (vE rfl ?_);refine⟨_,rfl,a,rfl,⟨_,SqL.of (s1 _ _ ha)⟩,Dg (K:=K) (a:=a) (xs:=xs)
   (fun i σ H2=>(∃ o1 o2 ys,∃ left:Int,σ=[some (.ref a),some (.int n),some (.ref r),some (.int left),o1,o2]/\H2 r=some (.lst ys)/\ys.length<=i/\∃ ks,Prs H2 ys ks/\CR.lowW ps n=ks++CR.lowW (ps.drop i) left)/\Same H H2)
   ⟨⟨none,none,[],n,rfl,Ab,zAn _,[],trivial,rfl⟩,s1⟩ (fun i σ H2 _ ⟨_,e⟩=>SqL.of (e _ _ ha)) ?_ ?_⟩
  ·rintro i x σ H2 hi ⟨⟨o1,o2,ys,left,rfl,h1,ly,ks,pk,ek⟩,s2⟩
   obtain⟨t,p,hp,rfl,ht⟩:=pr.get hi;have ht2:=s2 _ _ ht;have hix:i<ps.length:=(zAi.mp hp).1;have ed:ps.drop i=p::ps.drop (i+1):=by
    rw[zBw hix]
    congr 1
    exact (zAi.mp hp).2
   rw[ed,CR.lowW_cons] at ek;refine⟨t,_,rfl,SqT.of ht2,rfl,vC rfl (vC rfl (⟨rfl,?_⟩))⟩;refine (vE rfl (vF rfl rfl (vE rfl (Su (fun c=>?_) (fun c=>?_)))))
   ·have c':0<left:=of_decide_eq_true c
    rw[if_pos c'] at ek;refine (vE rfl ⟨.inl ⟨rfl,_,SqL.of h1⟩,vE rfl (vE rfl (vE rfl (vE rfl (vF rfl rfl ⟨_,_,rfl,by show 2<=sizeLine; rw[zCA]; decide,fun u hu=>?_⟩))))⟩);have s3:=An hu (.tup [.int p.1,.int (if p.1+left<p.2 then p.1+left else p.2)]);refine⟨r,_,_,rfl,rfl,s3 _ _ h1,by rw[zCA]; lia,?_⟩;refine (vE rfl (vE rfl (vE rfl (vF rfl rfl (vF rfl rfl ⟨⟨_,_,_,_,rfl,Ab,by rw[zAm]; exact Nat.add_le_add ly (zAn 1),_,((pk.mono (Bq s3)).snoc Ab).mono (Df (s3 _ _ h1) _),?_⟩,fun x o z=>?_⟩)))))
    ·rw[ek,zBA]
    ·rw[Ar (Ap z hr')]
     exact s3 _ _ (s2 x o z)
   ·have c':¬ 0<left:=of_decide_eq_false (zBc.mpr c)
    rw[if_neg c'] at ek;refine (vE rfl (vE rfl (vE rfl (vF rfl rfl (vF rfl rfl ⟨⟨_,_,_,_,rfl,h1,by lia,_,pk,?_⟩,s2⟩)))));rw[ek];rfl
  ·rintro σ H2 ⟨⟨o1,o2,ys,left,rfl,h1,ly,ks,pk,ek⟩,s2⟩
   refine (vE rfl (q r H2 s2 hr' ⟨ys,h1,?_⟩));rw[lx,zBD] at ek;rw[ek,CR.lowW_nil,zAY];exact pk
 ·refine (vE rfl ⟨rfl,vE rfl (dT rfl ?_)⟩)
  refine (vE rfl ⟨a,_,rfl,.inl (SqL.of ha),fun r hr'=>?_⟩);have s1:=An hr' (.lst xs);exact q r _ s1 hr' ⟨xs,Ab,pr.mono (Bq s1)⟩
theorem Sq:Bb ["run", "others", "left", "begin", "lo", "hi", "end"] ["run", "others"] (As Hl):=by injections
theorem Sa {f:Addr} {fd:zCC} (F:Fun K "left_of_run" "left_of_run" Hl f fd) (T:Txt K mg):FnOk P w K mg base Cu 1 f fd ["run", "others"] P3:=by
 have sc:=Sq;bv_omega
 ·obtain⟨_,_,_,_,rfl,_⟩:=h
  rfl
 obtain⟨t0,b,qs,p,rfl,ht0,⟨xs,hb,pr⟩,hl,q⟩:=h;refine⟨_,(Ad (Bf (i:=2) sc.nd rfl (Or.inl rfl) (Cg Af))
   (Ad (Bf (i:=3) sc.nd rfl (Or.inl rfl) (Bh Bp (pv 0) Ak (fun _ _=>rfl)))
   (Ad (Cm PassesOwn.never rfl (Cb (pv 1)) (Dw (n:=2) rfl (Bj (Az (i:=4) sc.nd rfl (Or.inl rfl)) (Bj (Az (i:=5) sc.nd rfl (Or.inl rfl)) Da)))
    (Ad (Bf (i:=6) sc.nd rfl (Or.inl rfl) (Bn (Ib rfl) rfl T.n_min (show zCB _=some (.builtin "min") from rfl) (Aa (pv 4) (Aa (Bh Bp (pv 0) Ak (fun _ _=>rfl)) Af))))
   (Ad (Bv (Bk Fw (pv 3) (pv 6) (Bm _))
    (Ao (Cp (Gi PySem.F.plainAttrs_list PySem.F.slot_list_append PySem.F.type_list_append Dm (pv 2) (Aa (Cc (Aa (pv 3) (Aa (pv 6) Af))) Af))))
    Bl)
   (Ao (Bf (i:=3) sc.nd rfl (Or.inl rfl) (Bn (Ig rfl) rfl T.n_max (show zCB _=some (.builtin "max") from rfl) (Aa (pv 3) (Aa (pv 5) Af))))))))
   (Ad (Bv (Bk Fw (pv 3) (Bh Bp (pv 0) Ak (fun _ _=>rfl)) (Bm _))
    (Ao (Cp (Gi PySem.F.plainAttrs_list PySem.F.slot_list_append PySem.F.type_list_append Dm (pv 2) (Aa (Cc (Aa (pv 3) (Aa (Bh Bp (pv 0) Ak (fun _ _=>rfl)) Af))) Af))))
    Bl)
   (Ao (Be (pv 2))))))),?_⟩
 have lx:=pr.len;refine⟨zAB _,fun r hr'=>?_⟩;have s1:Same H (upd H r (.lst [])):=An hr' _;refine (vE rfl (vI rfl rfl (SqT.of (s1 _ _ ht0)) rfl ?_));refine⟨_,rfl,b,rfl,⟨_,SqL.of (s1 _ _ hb)⟩,Dg (K:=K) (a:=b) (xs:=xs)
  (fun i σ H2=>(∃ o1 o2 o3 ys,∃ begin:Int,σ=[some (.ref t0),some (.ref b),some (.ref r),some (.int begin),o1,o2,o3]/\H2 r=some (.lst ys)/\ys.length<=i/\∃ ks,Prs H2 ys ks/\CR.leftW p.2 p.1 qs=ks++CR.leftW p.2 begin (qs.drop i))/\Same H H2)
  ⟨⟨none,none,none,[],p.1,rfl,Ab,zAn _,[],trivial,rfl⟩,s1⟩ (fun i σ H2 _ ⟨_,e⟩=>SqL.of (e _ _ hb)) ?_ ?_⟩
 ·rintro i x σ H2 hi ⟨⟨o1,o2,o3,ys,begin,rfl,h1,ly,ks,pk,ek⟩,s2⟩
  obtain⟨t,p',hp,rfl,ht⟩:=pr.get hi;have ht2:=s2 _ _ ht;have hix:i<qs.length:=(zAi.mp hp).1;have ed:qs.drop i=p'::qs.drop (i+1):=by
   rw[zBw hix]
   congr 1
   exact (zAi.mp hp).2
  rw[ed,CR.leftW_cons] at ek;refine⟨t,_,rfl,SqT.of ht2,rfl,vC rfl (vC rfl (⟨rfl,?_⟩))⟩;refine (vE rfl (vE rfl (vI rfl rfl (SqT.of (s2 _ _ ht0)) rfl ⟨_,_,rfl,?_⟩)));refine (vE rfl (vE rfl (vF rfl rfl (vE rfl (Su (fun c=>?_) (fun c=>?_))))))
  ·have c':begin<CR.minI p'.1 p.2:=of_decide_eq_true c
   rw[if_pos c'] at ek;refine (vE rfl ⟨.inl ⟨rfl,_,SqL.of h1⟩,vE rfl (vE rfl ⟨by show 2<=sizeLine; rw[zCA]; decide,fun u hu=>?_⟩)⟩);have s3:=An hu (.tup [.int begin,.int (CR.minI p'.1 p.2)]);refine⟨r,_,_,rfl,rfl,s3 _ _ h1,by rw[zCA]; lia,?_⟩;refine (vE rfl (vE rfl ⟨_,_,rfl,⟨_,_,_,_,_,rfl,Ab,by rw[zAm]; exact Nat.add_le_add ly (zAn 1),_,((pk.mono (Bq s3)).snoc Ab).mono (Df (s3 _ _ h1) _),?_⟩,fun x o z=>?_⟩))
   ·rw[ek,zBA]
    rfl
   ·rw[Ar (Ap z hr')]
    exact s3 _ _ (s2 x o z)
  ·have c':¬ begin<CR.minI p'.1 p.2:=of_decide_eq_false (zBc.mpr c)
   rw[if_neg c'] at ek;refine (vE rfl (vE rfl ⟨_,_,rfl,⟨_,_,_,_,_,rfl,h1,by lia,_,pk,?_⟩,s2⟩));rw[ek];rfl
 ·rintro σ H2 ⟨⟨o1,o2,o3,ys,begin,rfl,h1,ly,ks,pk,ek⟩,s2⟩
  rw[lx,zBD,CR.leftW_nil] at ek;refine (vE rfl (vE rfl (vI rfl rfl (SqT.of (s2 _ _ ht0)) rfl (vF rfl rfl (vE rfl (Su (fun c=>?_) (fun c=>?_)))))))
  ·have c':begin<p.2:=of_decide_eq_true c
   rw[if_pos c'] at ek;refine (vE rfl ⟨.inl ⟨rfl,_,SqL.of h1⟩,vE rfl (vE rfl (vI rfl rfl (SqT.of (s2 _ _ ht0)) rfl ⟨by show 2<=sizeLine; rw[zCA]; decide,fun u hu=>?_⟩))⟩);have s3:=An hu (.tup [.int begin,.int p.2]);refine⟨r,_,_,rfl,rfl,s3 _ _ h1,by rw[zCA]; lia,?_⟩;refine (vE rfl (q r _ (fun x o z=>?_) hr' ⟨_,Ab,?_⟩))
   ·rw[Ar (Ap z hr')]
    exact s3 _ _ (s2 x o z)
   ·rw[ek]
    exact ((pk.mono (Bq s3)).snoc Ab).mono (Df (s3 _ _ h1) _)
  ·have c':¬ begin<p.2:=of_decide_eq_false (zBc.mpr c)
   rw[if_neg c',zAY] at ek;refine (vE rfl (q r _ s2 hr' ⟨_,h1,?_⟩));rw[ek];exact pk
theorem J3:Bb ["runs", "others", "left", "run"] ["runs", "others"] (As Nq):=by injections
theorem J2 {f:Addr} {fd:zCC} (F:Fun K "cut_out" "cut_out" Nq f fd) (T:Txt K mg) (Cleft_of_run:Cn P w K mg base 1 "left_of_run" ["run", "others"] P3):FnOk P w K mg base Cu 2 f fd ["runs", "others"] DR:=by
 have sc:=J3;bv_omega
 ·obtain⟨_,_,_,_,rfl,_⟩:=h
  rfl
 obtain⟨a,b,ps,qs,rfl,⟨xs,ha,pr⟩,lq,hl,hl',q⟩:=h;refine⟨_,(Ad (Bf (i:=2) sc.nd rfl (Or.inl rfl) (Cg Af))
   (Ad (Cm PassesOwn.never rfl (Cb (pv 0)) (Az (i:=3) sc.nd rfl (Or.inl rfl))
    (Ao (Cp (Gi PySem.F.plainAttrs_list PySem.F.slot_list_extend PySem.F.type_list_extend Kk (pv 2) (Aa (Ax Cleft_of_run (hr.mono (by decide)) rfl (Aa (pv 3) (Aa (pv 1) Af))) Af)))))
   (Ao (Be (pv 2))))),?_⟩
 have lx:=pr.len;refine⟨zAB _,fun r hr'=>?_⟩;have s1:Same H (upd H r (.lst [])):=An hr' _;refine⟨_,rfl,a,rfl,⟨_,SqL.of (s1 _ _ ha)⟩,Dg (K:=K) (a:=a) (xs:=xs)
  (fun i σ H2=>(∃ o1 ys,σ=[some (.ref a),some (.ref b),some (.ref r),o1]/\H2 r=some (.lst ys)/\Prs H2 ys (CR.outW (ps.take i) qs))/\Same H H2)
  ⟨⟨none,[],rfl,Ab,trivial⟩,s1⟩ (fun i σ H2 _ ⟨_,e⟩=>SqL.of (e _ _ ha)) ?_ ?_⟩
 ·rintro i x σ H2 hi ⟨⟨o1,ys,rfl,h1,pk⟩,s2⟩
  obtain⟨t,p,hp,rfl,ht⟩:=pr.get hi;have hix:i<ps.length:=(zAi.mp hp).1;refine (vE rfl ⟨.inl ⟨rfl,_,SqL.of h1⟩,vE rfl (vE rfl ⟨t,b,qs,p,rfl,s2 _ _ ht,lq.same s2,hl',fun u H3 s3 hu ⟨zs,hz,pz⟩=>?_⟩)⟩);have e1:(CR.outW (ps.take i) qs).length<=1000*1001:=zAG (CR.outW_len _ _) (Nat.mul_le_mul (by rw[zAx]; lia) (by lia));have e2:(CR.leftW p.2 p.1 qs).length<=1001:=zAG (CR.leftW_len _ _ _) (by lia);refine⟨r,u,_,_,rfl,rfl,s3 _ _ h1,hz,by rw[pk.len,pz.len,zCA]; lia,⟨_,_,rfl,Ab,?_⟩,fun x o z=>?_⟩
  ·have e:CR.outW (ps.take (i+1)) qs=CR.outW (ps.take i) qs++CR.leftW p.2 p.1 qs:=by
    rw[Bz hp];unfold CR.outW;rw[zAr,List.flatten_append,List.map_singleton,List.flatten_singleton]
   rw[e];exact ((pk.mono (Bq s3)).app pz).mono (Df (s3 _ _ h1) _)
  ·rw[Ar (Ap z hr')]
   exact s3 _ _ (s2 x o z)
 ·rintro σ H2 ⟨⟨o1,ys,rfl,h1,pk⟩,s2⟩
  rw[lx,zAE] at pk;exact (vE rfl (q r H2 s2 hr' ⟨ys,h1,pk⟩))
end
theorem Trs.last {H:Hp}:∀ {xs:List V} {ps:List Tr} {p:Tr},Trs H xs (ps++[p])->∃ ys t,xs=ys++[.ref t]/\H t=some (.tup [.int p.1,.int p.2.1,.int p.2.2])/\Trs H ys ps
 | [],[],_,h=>h.elim
 | [x],[],_,⟨⟨t,e,h⟩,_⟩=>⟨[],t,by rw[e]; rfl,h,trivial⟩
 | x::y::xs,[],_,⟨_,h⟩=>h.elim
 | [],q::ps,_,h=>h.elim
 | x::xs,q::ps,p,⟨z,r⟩=>by
  obtain⟨ys,t,e,h,r'⟩:=Trs.last (ps:=ps) r;exact⟨x::ys,t,by rw[e]; rfl,h,z,r'⟩
abbrev FU:=Int×Int
def Sps (H:Hp):List V->List FU->Prop
 | [],[]=>True
 | x::xs,p::ps=>(∃ t,x = .ref t/\H t=some (.tup [.int p.1,.int p.2]))/\Sps H xs ps
 | _,_=>False
theorem Sps.len {H:Hp}:∀ {xs:List V} {ps:List FU},Sps H xs ps->xs.length=ps.length
 | [],[],_=>rfl
 | [],_::_,h=>h.elim
 | _::_,[],h=>h.elim
 | x::xs,p::ps,h=>by rw[zAf,zAf,Sps.len h.2]
theorem Sps.mono {H H':Hp} (s:HL H H'):∀ {xs:List V} {ps:List FU},Sps H xs ps->Sps H' xs ps
 | [],[],_=>trivial
 | [],_::_,h=>h.elim
 | _::_,[],h=>h.elim
 | x::xs,p::ps,⟨⟨t,e,h⟩,r⟩=>⟨⟨t,e,s _ _ h⟩,Sps.mono s r⟩
theorem Sps.get {H:Hp}:∀ {xs:List V} {ps:List FU} {i:Nat} {x:V},Sps H xs ps->xs[i]?=some x->∃ t p,ps[i]?=some p/\x = .ref t/\H t=some (.tup [.int p.1,.int p.2])
 | [],[],_,_,_,e=>by simp at e
 | [],_::_,_,_,h,_=>h.elim
 | _::_,[],_,_,h,_=>h.elim
 | x::xs,p::ps,0,y,⟨⟨t,e,h⟩,r⟩,q=>by
  simp at q;subst q;exact⟨t,p,rfl,e,h⟩
 | x::xs,p::ps,i+1,y,⟨_,r⟩,q=>by
  obtain⟨t,p',h1,h2⟩:=Sps.get (i:=i) r (by simpa using q);exact⟨t,p',by simpa using h1,h2⟩
theorem Sps.snoc {H:Hp}:∀ {xs:List V} {ps:List FU} {t:Addr} {a b:Int},Sps H xs ps->H t=some (.tup [.int a,.int b])->Sps H (xs++[.ref t]) (ps++[(a,b)])
 | [],[],t,_,_,_,h=>⟨⟨t,rfl,h⟩,trivial⟩
 | [],_::_,_,_,_,r,_=>r.elim
 | _::_,[],_,_,_,r,_=>r.elim
 | x::xs,p::ps,_,_,_,⟨z,r⟩,h=>⟨z,Sps.snoc r h⟩
def Cls4 (CC CO CL CM:Addr) (H:Hp):List V->List Cl->Prop
 | [],[]=>True
 | x::xs,c::cs=>(∃ p,x = .ref p/\ClAt CC CO CL CM H p c)/\Cls4 CC CO CL CM H xs cs
 | _,_=>False
theorem Cls4.len {CC CO CL CM:Addr} {H:Hp}:∀ {xs:List V} {cs:List Cl},Cls4 CC CO CL CM H xs cs->xs.length=cs.length
 | [],[],_=>rfl
 | [],_::_,h=>h.elim
 | _::_,[],h=>h.elim
 | x::xs,c::cs,h=>by rw[zAf,zAf,Cls4.len h.2]
theorem Cls4.get {CC CO CL CM:Addr} {H:Hp}:∀ {xs:List V} {cs:List Cl} {i:Nat} {x:V},Cls4 CC CO CL CM H xs cs->xs[i]?=some x->∃ p c,cs[i]?=some c/\x = .ref p/\ClAt CC CO CL CM H p c
 | [],[],_,_,_,e=>by simp at e
 | [],_::_,_,_,h,_=>h.elim
 | _::_,[],_,_,h,_=>h.elim
 | x::xs,c::cs,0,y,⟨⟨p,e,h⟩,r⟩,q=>by
  simp at q;subst q;exact⟨p,c,rfl,e,h⟩
 | x::xs,c::cs,i+1,y,⟨_,r⟩,q=>by
  obtain⟨p,c',h1,h2⟩:=Cls4.get (i:=i) r (by simpa using q);exact⟨p,c',by simpa using h1,h2⟩
def OE (H H':Hp):Prop:=∀ t C dx fs,H t=some (.ins C dx fs)->H' t=some (.ins C dx fs)
theorem Mp {H H':Hp} (s:Same H H'):OE H H':=fun t _ _ _ h=>s t _ h
theorem HC {H:Hp} {l:Addr} {xs:List V} (h:H l=some (.lst xs)) (o:HO):OE H (upd H l o):=fun t _ _ _ z=>by
 rw[Ar (He z h (by intro e; cases e))];exact z
theorem Cls4.mono {CC CO CL CM:Addr} {H H':Hp} (s:OE H H'):∀ {xs:List V} {ps:List Cl},Cls4 CC CO CL CM H xs ps->Cls4 CC CO CL CM H' xs ps
 | [],[],_=>trivial
 | [],_::_,h=>h.elim
 | _::_,[],h=>h.elim
 | x::xs,p::ps,⟨⟨t,e,dx,h⟩,r⟩=>⟨⟨t,e,dx,s _ _ _ _ h⟩,Cls4.mono s r⟩
theorem Cls4.snoc {CC CO CL CM:Addr} {H:Hp}:∀ {xs:List V} {cs:List Cl} {p:Addr} {c:Cl},Cls4 CC CO CL CM H xs cs->ClAt CC CO CL CM H p c->Cls4 CC CO CL CM H (xs++[.ref p]) (cs++[c])
 | [],[],p,_,_,h=>⟨⟨p,rfl,h⟩,trivial⟩
 | [],_::_,_,_,z,_=>z.elim
 | _::_,[],_,_,z,_=>z.elim
 | x::xs,c::cs,_,_,⟨z,r⟩,h=>⟨z,Cls4.snoc r h⟩
def ED (k:Int) (c:Cl) (n:Int):FU:=(NM c n k,NH c n k)
def Br (k:Int) (cs:List Cl) (ns:List Int):List FU:=List.zipWith (ED k) cs ns
theorem L8 {k:Int} {cs:List Cl} {ns:List Int} {i:Nat} {c:Cl} {n:Int} (h1:cs[i]?=some c) (h2:ns[i]?=some n):Br k (cs.take (i+1)) (ns.take (i+1))=Br k (cs.take i) (ns.take i)++[ED k c n]:=by
 unfold Br;rw[Bz h1,Bz h2,List.zipWith_append (by
  have:=(zAi.mp h1).1;have:=(zAi.mp h2).1;rw[zAx,zAx]
  lia)]
 rfl
theorem Ov {k:Int} {cs:List Cl} {ns:List Int} (h:ns.length=cs.length):(Br k cs ns).length=cs.length:=by unfold Br; rw[List.length_zipWith]; lia
def LA:Sp:=fun vs H Q _=>∃ a xs sp,∃ c:Int,vs=[.ref a,.int c]/\H a=some (.lst xs)/\Sps H xs sp/\sp.length<=60/\∀ H',Same H H'->Q (.int (CRP.fw sp c)) H'
def OA (sp:List FU) (cents y:Int):Prop:=y=0\/y=cents\/∃ p∈sp,y=p.1\/y=p.2
def DC:Sp:=fun vs H Q _=>∃ a xs sp,∃ cents:Int,vs=[.ref a,.int cents]/\H a=some (.lst xs)/\Sps H xs sp/\sp.length<=8/\∀ (l:Addr) (ms:List Int) (H':Hp),Same H H'->H l=none->H' l=some (.lst (ms.map V.int))->ms.Pairwise (· < ·)->(∀ y,y∈ms↔OA sp cents y)->ms.length<=20->Q (.ref l) H'
theorem BH:∀ {ms ns:List Int},ms.Nodup->(∀ y∈ms,y∈ns)->ms.length<=ns.length
 | [],_,_,_=>zAB _
 | x::ms,ns,nd,h=>by
  rw[zAT] at nd;have hx:=h x zAj;have ih:=BH (ns:=ns.erase x) nd.2 fun y hy=>(zCb (fun z:y=x=>nd.1 (by rw[<- z]; exact hy))).mpr (h y (zAg _ hy));rw[zBJ hx] at ih;have:0<ns.length:=zBQ hx;rw[zAf]
  lia
theorem KM {ms ns:List Int} (h:ms.Pairwise (· < ·)) (m:∀ y∈ms,y∈ns):ms.length<=ns.length:=by
 have nd:ms.Nodup:=h.imp fun {a b} z=>by lia
 exact BH nd m
section
variable {P:Program} {w:World} {K:zAa} {mg:Str->Option Value} {base:Heap} {Ac Ah Ag Am Au Bc Ba At Ae Aw Al Aj Bg Ai Bd Aq:Addr}
theorem Oi:Bb ["spans", "cent", "k", "span"] ["spans", "cent"] (As Fk):=by injections
theorem Oc {f:Addr} {fd:zCC} (F:Fun K "first_without" "first_without" Fk f fd) (T:Txt K mg):FnOk P w K mg base Cu 1 f fd ["spans", "cent"] LA:=by
 have sc:=Oi;bv_omega
 ·obtain⟨_,_,_,_,rfl,_⟩:=h
  rfl
 obtain⟨a,xs,sp,c,rfl,ha,ps,l60,q⟩:=h;refine⟨_,(Ad (Cm PassesOwn.never rfl (Ms rfl T.n_enumerate (Aa (pv 0) Af)) (Dw (n:=2) rfl (Bj (Az (i:=2) sc.nd rfl (Or.inl rfl)) (Bj (Az (i:=3) sc.nd rfl (Or.inl rfl)) Da)))
    (Ao (Bv (PW.pt (Hg (Bk Fw (pv 1) (Bh Bp (pv 3) Ak (fun _ _=>rfl)) (Bm _)) (Gj (Bk IG (pv 1) (Bh Bp (pv 3) Ak (fun _ _=>rfl)) (Bm _)))))
    (Ao (Be (pv 2)))
    Bl)))
   (Ao (Be (E4 Th Ak)))),?_⟩
 have lx:=ps.len;refine (vE rfl ⟨a,rfl,⟨_,SqL.of ha⟩,Ru (K:=K) (a:=a) (xs:=xs) (fun i σ H2=>((∃ o1 o2,σ=[some (.ref a),some (.int c),o1,o2])/\CRP.fw sp c=CRP.fwFrom (sp.drop i) i c)/\Same H H2) ⟨⟨⟨none,none,rfl⟩,rfl⟩,fun _ _ z=>z⟩ (fun i σ H2 _ ⟨_,e⟩=>SqL.of (e _ _ ha)) ?_ ?_⟩)
 ·rintro i x σ H2 t hi ⟨⟨⟨o1,o2,rfl⟩,e⟩,s2⟩ nt
  obtain⟨u,p,hp,rfl,hu⟩:=ps.get hi;have s3:=s2.trans (An nt (.tup [.int i,.ref u]));have hu3:=s3 _ _ hu;rw[Xy hp] at e;have e2:CRP.fw sp c=if c<p.1\/p.2<=c then (i:Int) else CRP.fwFrom (sp.drop (i+1)) ((i:Int)+1) c:=e;refine (vE rfl (vE rfl (vI rfl rfl (SqT.of hu3) rfl (vF rfl rfl (vE rfl ?_)))));by_cases c1:c<p.1
  ·rw[if_pos (.inl c1)] at e2
   refine dT c1 (Po (vE rfl ?_));have:=q _ s3;rw[e2] at this;exact this
  refine dF c1 (vE rfl (vE rfl (vI rfl rfl (SqT.of hu3) rfl (vF rfl rfl (vE rfl ?_)))));by_cases c2:p.2<=c
  ·rw[if_pos (.inr c2)] at e2
   refine dT c2 (vE rfl ?_);have:=q _ s3;rw[e2] at this;exact this
  ·rw[if_neg (by lia)] at e2
   exact dF c2 ⟨⟨⟨_,_,rfl⟩,by rw[e2]; rfl⟩,s3⟩
 ·rintro σ H2 ⟨⟨⟨o1,o2,rfl⟩,e⟩,s2⟩
  rw[lx,zBD] at e;have:=q _ s2;rw[e] at this;exact (vE rfl this)
theorem Yf:Bb ["spans", "cents", "bounds", "span"] ["spans", "cents"] (As Jr):=by injections
theorem Xv {f:Addr} {fd:zCC} (F:Fun K "bounds_of" "bounds_of" Jr f fd) (T:Txt K mg):FnOk P w K mg base Cu 1 f fd ["spans", "cents"] DC:=by
 have sc:=Yf;bv_omega
 ·obtain⟨_,_,_,_,rfl,_⟩:=h
  rfl
 obtain⟨a,xs,sp,cents,rfl,ha,ps,l8,q⟩:=h;refine⟨_,(Ad (Bf (i:=2) sc.nd rfl (Or.inl rfl) (Cg (Aa Ak (Aa (pv 1) Af))))
   (Ad (Cm PassesOwn.never rfl (Cb (pv 0)) (Az (i:=3) sc.nd rfl (Or.inl rfl))
    (Ao (Cp (Gi PySem.F.plainAttrs_list PySem.F.slot_list_extend PySem.F.type_list_extend O6 (pv 2) (Aa (pv 3) Af)))))
   (Ao (Be (F6 (pv 2) rfl rfl T.n_sorted rfl T.n_set))))),?_⟩
 have lx:=ps.len;refine (vE rfl ⟨Ci (by show 2<=1000; decide),fun b nb=>?_⟩);have nab:a≠b:=Ap ha nb;refine⟨_,rfl,a,rfl,⟨_,SqL.of (An nb _ _ _ ha)⟩,Dg (K:=K) (a:=a) (xs:=xs) (fun i σ H2=>(∃ o,σ=[some (.ref a),some (.int cents),some (.ref b),o])/\H2 b=some (.lst ((0::cents::(sp.take i).flatMap fun p=>[p.1,p.2]).map V.int))/\Same H H2) ⟨⟨none,rfl⟩,Ab,An nb _⟩
  (fun i σ H2 _ ⟨_,_,e⟩=>SqL.of (e _ _ ha)) ?_ ?_⟩
 ·rintro i x σ H2 hi ⟨⟨o,rfl⟩,hb,s2⟩
  obtain⟨u,p,hp,rfl,hu⟩:=ps.get hi;have il:i<sp.length:=(zAi.mp hp).1;have fl:∀ l:List FU,(l.flatMap fun p=>[p.1,p.2]).length=2*l.length:=fun l=>by
   induction l with
   | nil=>rfl
   | cons y l ih=>simp only [List.flatMap_cons,zAm,zAf,zBL,ih]; lia
  refine (vE rfl ⟨.inl ⟨rfl,_,SqL.of hb⟩,vE rfl ⟨b,u,_,_,rfl,rfl,hb,s2 _ _ hu,?_,⟨⟨_,rfl⟩,?_,fun y o z=>?_⟩⟩⟩)
  ·rw[zAb,zAf,zAf,fl,zAx,zCA]
   show _+2<=_
   lia
  ·rw[Ab,Bz hp,List.flatMap_append]
   congr 2
   show List.map V.int _++[V.int p.1,V.int p.2]=List.map V.int (0::cents::(_++_));rw[<- List.cons_append,<- List.cons_append,zAr];rfl
  ·rw[Ar (Ap z nb)]
   exact s2 y o z
 ·rintro σ H2 ⟨⟨o,rfl⟩,hb,s2⟩
  rw[lx,zAE] at hb;have fl:∀ l:List FU,(l.flatMap fun p=>[p.1,p.2]).length=2*l.length:=fun l=>by
   induction l with
   | nil=>rfl
   | cons y l ih=>simp only [List.flatMap_cons,zAm,zAf,zBL,ih]; lia
  have ln:(0::cents::sp.flatMap fun p=>[p.1,p.2]).length<=20:=by rw[zAf,zAf,fl]; lia
  refine (vE rfl ⟨b,_,rfl,SqL.of hb,by lia,fun l ms nl up mem=>q l ms _ (s2.trans (An nl _)) (s2.free nl) Ab up (fun y=>?_) ?_⟩)
  ·rw[mem y]
   unfold OA;constructor
   ·intro hy
    rcases zAo.mp hy with z | z
    ·exact .inl z
    rcases zAo.mp z with z | z
    ·exact .inr (.inl z)
    ·obtain⟨p,hp,hy'⟩:=List.mem_flatMap.mp z
     refine .inr (.inr ⟨p,hp,?_⟩)
     simpa using hy'
   ·rintro (z | z | ⟨p,hp,z⟩)
    ·rw[z]; exact zAj
    ·rw[z]; exact zAg _ zAj
    ·refine zAg _ (zAg _ (List.mem_flatMap.mpr ⟨p,hp,?_⟩))
     simpa using z
  ·exact zAG (KM up fun y hy=>(mem y).mp hy) ln
def Dv:List (Option Int)->Int->Option (Int×Int)->Option (Int×Int)
 | [],_,o=>o
 | none::r,k,o=>Dv r (k+1) o
 | some n::r,k,none=>Dv r (k+1) (some (n,k))
 | some n::r,k,some (m,j)=>Dv r (k+1) (if n<m then some (n,k) else some (m,j))
def Zd:V->Option Int
 | .int n=>some n
 | _=>none
def RV (H:Hp) (v:V):Option (Int×Int)->Prop
 | none=>v = .non
 | some (n,k)=>∃ t,v = .ref t/\H t=some (.tup [.int n,.int k])
theorem RV.same {H H':Hp} {v:V} (s:Same H H'):∀ {o:Option (Int×Int)},RV H v o->RV H' v o
 | none,h=>h
 | some (n,k),⟨t,e,h⟩=>⟨t,e,s _ _ h⟩
def Ce (cs:List Cl) (ns:List Int):List (Option Int):=List.zipWith (fun c n=>Zd (Kw c n)) cs ns
def Yo (CC CO CL CM C:Addr):Sp:=fun vs H Q _=>∃ p cl ct xs cs ns,vs=[.ref p,.ref ct]/\CvAt C H p cl/\H cl=some (.lst xs)/\Cls4 CC CO CL CM H xs cs/\H ct=some (.lst (List.map V.int ns))/\ns.length=cs.length /\
 ∀ v H',Same H H'->RV H' v (Dv (Ce cs ns) 0 none)->Q v H'
theorem BO (c:Cl) (n:Int):Kw c n = .non\/∃ m:Int,Kw c n = .int m:=by
 cases c with
 | own y d=>exact .inl rfl
 | lay y a b=>exact .inl rfl
 | lim y m=>exact .inr ⟨_,rfl⟩
 | any y=>exact .inl rfl
theorem Tu:Bb ["self", "counts", "least", "k", "clause", "room"] ["self", "counts"] (As Je):=by injections
theorem Uf {f:Addr} {fd:zCC} (F:Fun K "rest" "Cover.rest" Je f fd) (T:Txt K mg) (L:Kl K mg Ac Ah Ag Am Au Bc Ba At Ae Aw Al Aj Bg Ai Bd Aq) (Mroom:Px P w K mg base 1 (Fam Ae Aw Al Aj) "room" ["self", "paid"] (Wr Ae Aw Al Aj)):FnOk P w K mg base Cu 2 f fd ["self", "counts"] (Yo Ae Aw Al Aj Ai):=by
 have sc:=Tu;bv_omega
 ·obtain⟨_,_,_,_,_,_,rfl,_⟩:=h
  rfl
 obtain⟨p,cl,ct,xs,cs,ns,rfl,⟨dx,fs,hp,hlk,_⟩,hcl,C4,hct,ln,q⟩:=h;refine⟨_,(Ad (Bf (i:=2) sc.nd rfl (Or.inl rfl) Gu)
   (Ad (Cm PassesOwn.never rfl (Ms rfl T.n_enumerate (Aa (Cq (pv 0) rfl) Af)) (Dw (n:=2) rfl (Bj (Az (i:=3) sc.nd rfl (Or.inl rfl)) (Bj (Az (i:=4) sc.nd rfl (Or.inl rfl)) Da)))
    (Ad (Bf (i:=5) sc.nd rfl (Or.inl rfl) (Gh Mroom (hr.mono (by decide)) (pv 4) (Aa (Bh Bo (pv 1) (pv 3) (fun _ _=>rfl)) Af)))
   (Ao (Bv (PW.pt (Og (Bk W7 (pv 5) Gu (Bm _)) (Nl (PW.pt (Hg (Bk Ti (pv 2) Gu (Bm _)) (Gj (Bk Fw (pv 5) (Bh Bp (pv 2) Ak (fun _ _=>rfl)) (Bm _))))))))
    (Ao (Bf (i:=2) sc.nd rfl (Or.inl rfl) (Cc (Aa (pv 5) (Aa (pv 3) Af)))))
    Bl))))
   (Ao (Be (pv 2))))),?_⟩
 have lx:=C4.len;have two:2<=sizeLine:=by rw[zCA]; decide
 refine⟨_,rfl,p,Ai,dx,fs,_,rfl,hp,L.cl_Cover,L.na_Cover_clauses,hlk,cl,rfl,⟨_,SqL.of hcl⟩,Ru (K:=K) (a:=cl) (xs:=xs)
  (fun i σ H2=>(∃ v o3 o4 o5 o,σ=[some (.ref p),some (.ref ct),some v,o3,o4,o5]/\RV H2 v o/\Dv (Ce cs ns) 0 none=Dv ((Ce cs ns).drop i) i o)/\Same H H2) ⟨⟨.non,none,none,none,none,rfl,rfl,rfl⟩,fun _ _ z=>z⟩ (fun i σ H2 _ ⟨_,e⟩=>SqL.of (e _ _ hcl)) ?_ ?_⟩
 ·rintro i x σ H2 t hi ⟨⟨v,o3,o4,o5,o,rfl,rv,er⟩,s2⟩ nt
  obtain⟨pc,c,hc,rfl,⟨dc,hat⟩⟩:=C4.get hi;have s3:=An nt (.tup [.int i,.ref pc]);have s23:=s2.trans s3;have ic:i<cs.length:=(zAi.mp hc).1;have hcn:cs[i]'ic=c:=(zAi.mp hc).2;have hnn:ns.getD i 0=ns[i]'(by lia):=by rw[zAs,zAd (by lia)]; rfl
  have nth:(Ce cs ns)[i]?=some (Zd (Kw c (ns.getD i 0))):=by
   unfold Ce;rw[List.getElem?_zipWith,hc,zAd (show i<ns.length by lia),<- hnn]
  rw[Xy nth] at er;have rv3:=rv.same s3;refine (vE rfl ⟨pc,_,dc,_,rfl,s23 _ _ hat,L4 Ae Aw Al Aj c,GJ c,_,rfl,vE rfl (vI rfl rfl (SqL.of (s23 _ _ hct)) (V8 (by lia) (by lia)) ⟨pc,c,_,rfl,⟨dc,s23 _ _ hat⟩,rfl,?_⟩)⟩);have ei:((i:Int)).toNat=i:=Int.toNat_natCast i;rw[ei];generalize hR:Kw c (ns.getD i 0)=rm at er;have rmv:rm = .non\/∃ m:Int,rm = .int m:=by rw[<- hR]; exact BO c _
  rcases rmv with rfl | ⟨m,rfl⟩
  ·refine (vE rfl ⟨rfl,vE rfl (nF rfl (Dy ?_))⟩)
   exact⟨⟨v,_,_,_,o,rfl,rv3,er⟩,s23⟩
  ·refine (vE rfl ⟨rfl,vE rfl (nT (fun z=>nomatch z) ?_)⟩)
   have done:∀ (H4:Hp) (u:Addr) o5',Same H H4->H4 u=none->Dv (Ce cs ns) 0 none=Dv ((Ce cs ns).drop (i+1)) ((i:Int)+1) (some (m,(i:Int))) ->
     (∃ v o3 o4 o5 o,[some (.ref p),some (.ref ct),some (.ref u),some (.int i),some (.ref pc),o5']=[some (.ref p),some (.ref ct),some v,o3,o4,o5]/\RV (upd H4 u (.tup [.int m,.int i])) v o/\Dv (Ce cs ns) 0 none=Dv ((Ce cs ns).drop (i+1)) ((i+1:Nat):Int) o)/\Same H (upd H4 u (.tup [.int m,.int i])):=fun H4 u o5' s4 nu e=>by
    exact⟨⟨.ref u,_,_,_,some (m,i),rfl,⟨u,rfl,Ab⟩,by rw[e]; rfl⟩,s4.trans (An nu _)⟩
   cases o with
   | none=>
    have v0:v = .non:=rv;subst v0;refine (vE rfl ⟨rfl,vE rfl (dT rfl (Po ?_))⟩);exact (vE rfl (vE rfl ⟨two,fun u nu=>done _ u _ s23 nu er⟩))
   | some mj=>
    obtain⟨n0,j0⟩:=mj;obtain⟨tv,rfl,htv⟩:=rv3;refine (vE rfl ⟨rfl,vE rfl (dF (fun z=>nomatch z) ?_)⟩);refine (vE rfl (vE rfl (vI rfl rfl (SqT.of htv) rfl (vF rfl rfl (vE rfl (Su (fun c1=>?_) (fun c1=>?_)))))))
    ·have c1':m<n0:=of_decide_eq_true c1
     have er':Dv (Ce cs ns) 0 none=Dv ((Ce cs ns).drop (i+1)) ((i:Int)+1) (if m<n0 then some (m,(i:Int)) else some (n0,j0)):=er;rw[if_pos c1'] at er';exact (vE rfl (vE rfl ⟨two,fun u nu=>done _ u _ s23 nu er'⟩))
    ·have c1':¬ m<n0:=of_decide_eq_false (zBc.mpr c1)
     have er':Dv (Ce cs ns) 0 none=Dv ((Ce cs ns).drop (i+1)) ((i:Int)+1) (if m<n0 then some (m,(i:Int)) else some (n0,j0)):=er;rw[if_neg c1'] at er';exact⟨⟨.ref tv,_,_,_,some (n0,j0),rfl,⟨tv,rfl,htv⟩,by rw[er']; rfl⟩,s23⟩
 ·rintro σ H2 ⟨⟨v,o3,o4,o5,o,rfl,rv,er⟩,s2⟩
  have lr:(Ce cs ns).length=xs.length:=by unfold Ce; rw[List.length_zipWith]; lia
  rw[<- lr,zBD] at er;exact (vE rfl (q v H2 s2 (by rw[er]; exact rv)))
theorem FX {nx:St->Hp->Prop} {σ:St} {H:Hp} (σ':St) (e:σ=σ') (h:nx σ' H):nx σ H:=e▸h
def OL (CC CO CL CM C:Addr) (H:Hp) (p cl ct:Addr) (cs:List Cl) (ns:List Int):Prop:=CvAt C H p cl/\(∃ xs,H cl=some (.lst xs)/\Cls4 CC CO CL CM H xs cs)/\H ct=some (.lst (ns.map V.int))/\ns.length=cs.length/\cs.length<=8
def Q2 (m:Int) (l:List Int):Prop:=m∈l/\∀ k∈l,k<=m
def V2 (m:Int) (l:List Int):Prop:=m∈l/\∀ k∈l,m<=k
def Qi (CC CO CL CM C:Addr):Sp:=fun vs H Q _=>∃ p cl ct cs ns,∃ k:Int,vs=[.ref p,.ref ct,.int k]/\OL CC CO CL CM C H p cl ct cs ns/\∀ r ys H',Same H H'->H r=none->H' r=some (.lst ys)->Sps H' ys (Br k cs ns)->Q (.ref r) H'
def BM (CC CO CL CM C:Addr):Sp:=fun vs H Q _=>∃ p cl ct cs ns,∃ k:Int,vs=[.ref p,.ref ct,.int k]/\OL CC CO CL CM C H p cl ct cs ns/\∀ (t:Addr) (lo hi:Int) (H':Hp),Same H H'->H' t=some (.tup [.int lo,.int (if hi>lo then hi else lo)]) ->
 Q2 lo (0::(Br k cs ns).map (·.1))->V2 hi (k::(Br k cs ns).map (·.2))->Q (.ref t) H'
def FC (CC CO CL CM C:Addr):Sp:=fun vs H Q _=>∃ p cl ct cs ns,∃ k:Int,vs=[.ref p,.ref ct,.int k]/\OL CC CO CL CM C H p cl ct cs ns/\∀ (r:Addr) (xs:List V) (ms:List Int) (H':Hp),Same H H'->H r=none->H' r=some (.lst xs)->ms.Pairwise (· < ·)->(∀ y,y∈ms↔OA (Br k cs ns) k y)->ms.length<=20 ->
 Trs H' xs (CRP.foldP (Br k cs ns) ms (ms.length-1))->Q (.ref r) H'
theorem Ro:Bb ["self", "counts", "cents"] ["self", "counts", "cents"] (As Hx):=by injections
theorem Qr {f:Addr} {fd:zCC} (F:Fun K "spans" "Cover.spans" Hx f fd) (T:Txt K mg) (L:Kl K mg Ac Ah Ag Am Au Bc Ba At Ae Aw Al Aj Bg Ai Bd Aq) (Mspan:Px P w K mg base 2 (Fam Ae Aw Al Aj) "span" ["self", "count", "cents"] (Qy Ae Aw Al Aj)):FnOk P w K mg base Cu 3 f fd ["self", "counts", "cents"] (Qi Ae Aw Al Aj Ai):=by
 have sc:=Ro;bv_omega
 ·obtain⟨_,_,_,_,_,_,rfl,_⟩:=h
  rfl
 obtain⟨p,cl,ct,cs,ns,k,rfl,⟨⟨dx,fs,e1,fc,nm⟩,⟨xs,hcl,cc⟩,hct,ln,l8⟩,q⟩:=h;refine⟨_,(Ao (Be (Dj (NC:=["k", "clause", "cents", "counts"]) (own:=["k", "clause"]) (cs:=["cents", "counts"]) (ix:=[2,1]) rfl (CompScope.of rfl) rfl ⟨⟨rfl,.inl rfl,rfl⟩,⟨⟨rfl,.inl rfl,rfl⟩,trivial⟩⟩ (Ms rfl T.n_enumerate (Aa (Cq (pv 0) rfl) Af)) (fun _ _ _=>(V5 (K:=K) (n:=2) rfl rfl (Bj (Az (i:=0) (show (["k", "clause", "cents", "counts"]:List Str).Nodup from by ac_nf) rfl (Or.inl rfl)) (Bj (Az (i:=1) (show (["k", "clause", "cents", "counts"]:List Str).Nodup from by ac_nf) rfl (Or.inl rfl)) Da)))) (fun _ _ _=>Dd) (fun _ _ _=>(Gh Mspan (hr.mono (by decide)) (pv 1) (Aa (Bh (Sw (K:=K) rfl) (pv 3) (pv 0) (fun _ _=>rfl)) (Aa (pv 2) Af))))))),?_⟩;have lx:=cc.len;refine (vE rfl ⟨p,Ai,dx,fs,_,rfl,e1,L.cl_Cover,L.na_Cover_clauses,fc,cl,rfl,⟨_,SqL.of hcl⟩,fun b nb=>?_⟩);refine Vz (K:=K) (a:=cl) (xs:=xs) (fun i ys H2=>Sps H2 ys (Br k (cs.take i) (ns.take i))/\H2 b=some (.lst ys)/\Same H H2) ⟨trivial,Ab,An nb _⟩
  (fun i ys H2 _ ⟨e,x1,x2⟩=>⟨x1,by rw[e.len,Ov (by rw[zAx,zAx,ln]),zAx]; lia,SqL.of (x2 _ _ hcl)⟩) (by rw[zCA]; lia) (fun i x ys H2 t hi ⟨e,x1,x2⟩ ht=>?_) (fun ys H2 ⟨e,x1,x2⟩=>?_)
 ·obtain⟨o,c,hc,rfl,ho⟩:=cc.get hi
  have il:i<cs.length:=(zAi.mp hc).1;have hn:ns[i]?=some (ns[i]'(by lia)):=zAd (by lia);have s3:=x2.trans (An ht (.tup [.int i,.ref o]));have ho3:=ho.same s3;obtain⟨od,ho4⟩:=id ho3;have ati:Me (ns.map V.int) (i:Int)=some (.int (ns[i]'(by lia))):=Dr (by rw[zAw,hn]; rfl);refine (vE rfl ⟨o,_,od,_,rfl,ho4,L4 _ _ _ _ c,HU c,_,rfl,vE rfl (vI rfl rfl (SqL.of (s3 _ _ hct)) ati (vE rfl ⟨o,c,_,k,rfl,ho3,rfl,fun u H4 s4 hu=>⟨s4 _ _ (An ht _ _ _ x1),rfl,?_,Ab,fun y ob z=>?_⟩⟩))⟩)
  ·rw[L8 hc hn]
   have h1:=s4 _ _ (An ht (.tup [.int i,.ref o]) _ _ x1);exact (((e.mono (Bq (An ht _))).mono (Bq s4)).snoc hu).mono (Df h1 _)
  ·rw[Ar (Ap z nb)]
   exact s4 _ _ (s3 y ob z)
 rw[lx,zAE,<- ln,zAE] at e;exact q b ys H2 x2 nb x1 e
theorem Pw:Bb ["self", "counts", "cents", "spans", "lo", "hi"] ["self", "counts", "cents"] (As Gg):=by injections
theorem Pz {f:Addr} {fd:zCC} (F:Fun K "window" "Cover.window" Gg f fd) (T:Txt K mg) (L:Kl K mg Ac Ah Ag Am Au Bc Ba At Ae Aw Al Aj Bg Ai Bd Aq) (Mspans:Iv P w K mg base 3 Ai "spans" ["self", "counts", "cents"] (Qi Ae Aw Al Aj Ai)):FnOk P w K mg base Cu 4 f fd ["self", "counts", "cents"] (BM Ae Aw Al Aj Ai):=by
 have sc:=Pw;bv_omega
 ·obtain⟨_,_,_,_,_,_,rfl,_⟩:=h
  rfl
 obtain⟨p,cl,ct,cs,ns,k,rfl,CV,q⟩:=h;refine⟨_,(Ad (Bf (i:=3) sc.nd rfl (Or.inl rfl) (Ed Mspans (hr.mono (by decide)) (pv 0) (Aa (pv 1) (Aa (pv 2) Af))))
   (Ad (Bf (i:=4) sc.nd rfl (Or.inl rfl) (Bn (AJ rfl) rfl T.n_max (show zCB _=some (.builtin "max") from rfl) (Aa (Ay Hv (Cg (Aa Ak Af)) (Dj (NC:=["span"]) (own:=["span"]) (cs:=[]) (ix:=[]) rfl (CompScope.of rfl) rfl trivial (Cb (pv 3)) (fun _ _ _=>(Az (i:=0) (show (["span"]:List Str).Nodup from by ac_nf) rfl (Or.inl rfl))) (fun _ _ _=>Dd) (fun _ _ _=>(Bh (Ee (K:=K) rfl) (pv 0) Ak (fun _ _=>rfl))))) Af)))
   (Ad (Bf (i:=5) sc.nd rfl (Or.inl rfl) (Bn (Z8 rfl) rfl T.n_min (show zCB _=some (.builtin "min") from rfl) (Aa (Ay Hv (Cg (Aa (pv 2) Af)) (Dj (NC:=["span"]) (own:=["span"]) (cs:=[]) (ix:=[]) rfl (CompScope.of rfl) rfl trivial (Cb (pv 3)) (fun _ _ _=>(Az (i:=0) (show (["span"]:List Str).Nodup from by ac_nf) rfl (Or.inl rfl))) (fun _ _ _=>Dd) (fun _ _ _=>(Bh (Ee (K:=K) rfl) (pv 0) Ak (fun _ _=>rfl))))) Af)))
   (Ao (Be (Cc (Aa (pv 4) (Aa (Bn (Ig rfl) rfl T.n_max (show zCB _=some (.builtin "max") from rfl) (Aa (pv 4) (Aa (pv 5) Af))) Af)))))))),?_⟩
 have one:1<=sizeLine:=by rw[zCA]; decide
 have two:2<=sizeLine:=by rw[zCA]; decide
 obtain⟨⟨dx,fs,e1,fc,nm⟩,_,_,ln,l8⟩:=id CV;refine (vE rfl ⟨p,dx,fs,rfl,e1,nm.1,_,rfl,vE rfl ⟨p,cl,ct,cs,ns,k,rfl,CV,fun r ys H1 s1 nr hr1 ps=>?_⟩⟩);have lsp:(Br k cs ns).length<=8:=by rw[Ov ln]; exact l8
 generalize Br k cs ns=sp at ps q lsp;have ly:=ps.len;refine Dp [some (.ref p),some (.ref ct),some (.int k),some (.ref r),none,none] rfl ?_;refine⟨one,fun l1 n1=>?_⟩;have t1:=An n1 (.lst [V.int 0]);refine (vE rfl ⟨r,rfl,⟨_,SqL.of (t1 _ _ hr1)⟩,fun b nb=>?_⟩);have hl1:upd H1 l1 (.lst [V.int 0]) l1=some (.lst [V.int 0]):=Ab;generalize upd H1 l1 (.lst [V.int 0])=H2 at t1 hl1 nb;have hr2:=t1 _ _ hr1;have ps2:=ps.mono (Bq t1);refine Ck (K:=K) (a:=r) (xs:=ys) (fun i zs H3=>zs=((sp.take i).map (·.1)).map V.int/\H3 b=some (.lst zs)/\Same H2 H3) ⟨rfl,Ab,An nb _⟩
  (fun i zs H3 _ ⟨e,x1,x2⟩=>⟨x1,by rw[e,zAb,zAb,zAx]; lia,SqL.of (x2 _ _ hr2)⟩) (by rw[zCA]; lia) (fun i x zs H3 hi ⟨e,x1,x2⟩=>?_) (fun zs H3 ⟨e,x1,x2⟩=>?_)
 ·obtain⟨t,pp,hp,rfl,ht⟩:=ps2.get hi
  refine (vE rfl (vI rfl rfl (SqT.of (x2 _ _ ht)) rfl ⟨x1,rfl,?_,Ab,fun y o z=>?_⟩))
  ·rw[Bz hp,zAr,zAr,e]
   rfl
  ·rw[Ar (Ap z nb)]
   exact x2 y o z
 rw[ly,zAE] at e;subst e;refine⟨l1,b,_,_,rfl,rfl,x2 _ _ hl1,x1,by rw[zAb,zAb,zCA]; show 1+_<=_; lia,fun l2 n2=>?_⟩;have t3:=An n2 (.lst ([V.int 0]++(sp.map (·.1)).map V.int));refine⟨l2,0::sp.map (·.1),rfl,SqL.of Ab,by simp,fun lo hlo blo=>?_⟩;have S3:=t1.trans (x2.trans t3);generalize upd H3 l2 (.lst ([V.int 0]++(sp.map (·.1)).map V.int))=H4 at S3;have hr4:=S3 _ _ hr1;have ps4:=ps.mono (Bq S3);clear x1 x2 t3 t1 hl1 hr2 ps2 n2 nb n1;refine Dp [some (.ref p),some (.ref ct),some (.int k),some (.ref r),some (.int lo),none] rfl ?_;refine (vE rfl ⟨one,fun l1 n1=>?_⟩);have t1:=An n1 (.lst [V.int k]);refine (vE rfl ⟨r,rfl,⟨_,SqL.of (t1 _ _ hr4)⟩,fun b nb=>?_⟩);have hl1:upd H4 l1 (.lst [V.int k]) l1=some (.lst [V.int k]):=Ab;generalize upd H4 l1 (.lst [V.int k])=H5 at t1 hl1 nb;have hr5:=t1 _ _ hr4;have ps5:=ps4.mono (Bq t1);refine Ck (K:=K) (a:=r) (xs:=ys) (fun i zs H6=>zs=((sp.take i).map (·.2)).map V.int/\H6 b=some (.lst zs)/\Same H5 H6) ⟨rfl,Ab,An nb _⟩
  (fun i zs H6 _ ⟨e,x1,x2⟩=>⟨x1,by rw[e,zAb,zAb,zAx]; lia,SqL.of (x2 _ _ hr5)⟩) (by rw[zCA]; lia) (fun i x zs H6 hi ⟨e,x1,x2⟩=>?_) (fun zs H6 ⟨e,x1,x2⟩=>?_)
 ·obtain⟨t,pp,hp,rfl,ht⟩:=ps5.get hi
  refine (vE rfl (vI rfl rfl (SqT.of (x2 _ _ ht)) rfl ⟨x1,rfl,?_,Ab,fun y o z=>?_⟩))
  ·rw[Bz hp,zAr,zAr,e]
   rfl
  ·rw[Ar (Ap z nb)]
   exact x2 y o z
 rw[ly,zAE] at e;subst e;refine⟨l1,b,_,_,rfl,rfl,x2 _ _ hl1,x1,by rw[zAb,zAb,zCA]; show 1+_<=_; lia,fun l2 n2=>?_⟩;have t3:=An n2 (.lst ([V.int k]++(sp.map (·.2)).map V.int));refine⟨l2,k::sp.map (·.2),rfl,SqL.of Ab,by simp,fun hi hhi bhi=>?_⟩;have S6:=s1.trans (S3.trans (t1.trans (x2.trans t3)));generalize upd H6 l2 (.lst ([V.int k]++(sp.map (·.2)).map V.int))=H7 at S6;refine Dp [some (.ref p),some (.ref ct),some (.int k),some (.ref r),some (.int lo),some (.int hi)] rfl ?_;refine (vE rfl (vE rfl (vE rfl ⟨_,_,rfl,two,fun t nt=>?_⟩)));exact q t lo hi _ (S6.trans (An nt _)) Ab ⟨hlo,blo⟩ ⟨hhi,bhi⟩
theorem GM (xs:List V):Op xs (some 1) none=xs.drop 1:=by
 unfold Op;rw[HT.sIx_none,show (some (1:Int))=some ((1:Nat):Int) from rfl,HT.sIx_nat];cases xs with
 | nil=>rfl
 | cons x xs=>
  rw[show min 1 (x::xs).length=1 by rw[zAf]; lia,zCs];rw[zBn];exact zAn _
theorem Rm:Bb ["self", "counts", "cents", "spans", "bounds", "told", "lo", "hi", "k"] ["self", "counts", "cents"] (As Hq):=by injections
theorem So {f:Addr} {fd:zCC} (F:Fun K "parts" "Cover.parts" Hq f fd) (T:Txt K mg) (L:Kl K mg Ac Ah Ag Am Au Bc Ba At Ae Aw Al Aj Bg Ai Bd Aq) (Mspans:Iv P w K mg base 3 Ai "spans" ["self", "counts", "cents"] (Qi Ae Aw Al Aj Ai)) (Cbounds_of:Cn P w K mg base 1 "bounds_of" ["spans", "cents"] DC)
  (Cfirst_without:Cn P w K mg base 1 "first_without" ["spans", "cent"] LA):FnOk P w K mg base Cu 4 f fd ["self", "counts", "cents"] (FC Ae Aw Al Aj Ai):=by
 have sc:=Rm;bv_omega
 ·obtain⟨_,_,_,_,_,_,rfl,_⟩:=h
  rfl
 obtain⟨p,cl,ct,cs,ns,k,rfl,CV,q⟩:=h;refine⟨_,(Ad (Bf (i:=3) sc.nd rfl (Or.inl rfl) (Ed Mspans (hr.mono (by decide)) (pv 0) (Aa (pv 1) (Aa (pv 2) Af))))
   (Ad (Bf (i:=4) sc.nd rfl (Or.inl rfl) (Ax Cbounds_of (hr.mono (by decide)) rfl (Aa (pv 3) (Aa (pv 2) Af))))
   (Ad (Bf (i:=5) sc.nd rfl (Or.inl rfl) (Cg Af))
   (Ad (Cm PassesOwn.never rfl (JJ rfl T.n_zip (Aa (pv 4) (Aa (Ep Fz (pv 4) (Fy Ak) Fx) Af))) (Dw (n:=2) rfl (Bj (Az (i:=6) sc.nd rfl (Or.inl rfl)) (Bj (Az (i:=7) sc.nd rfl (Or.inl rfl)) Da)))
    (Ad (Bf (i:=8) sc.nd rfl (Or.inl rfl) (Ax Cfirst_without (hr.mono (by decide)) rfl (Aa (pv 3) (Aa (pv 6) Af))))
   (Ad (Bv (PW.pt (Og (DL (pv 5)) (Nl (Bk Db (Bh Bp (Bh Bo (pv 5) (E4 Th Ak) (fun _ _=>rfl)) Ak (fun _ _=>rfl)) (pv 8) (Bm _)))))
    (Ao (Bf (i:=6) sc.nd rfl (Or.inl rfl) (Bh Bp (JR PySem.F.plainAttrs_list PySem.F.slot_list_pop PySem.F.type_list_pop KN (pv 5)) Ak (fun _ _=>rfl))))
    Bl)
   (Ao (Cp (Gi PySem.F.plainAttrs_list PySem.F.slot_list_append PySem.F.type_list_append Dm (pv 5) (Aa (Cc (Aa (pv 6) (Aa (pv 7) (Aa (pv 8) Af)))) Af)))))))
   (Ao (Be (pv 5))))))),?_⟩
 have three:3<=sizeLine:=by rw[zCA]; decide
 obtain⟨⟨dx,fs,e1,fc,nm⟩,_,_,ln,l8⟩:=id CV;refine (vE rfl ⟨p,dx,fs,rfl,e1,nm.1,_,rfl,vE rfl ⟨p,cl,ct,cs,ns,k,rfl,CV,fun a ys H1 s1 na ha ps=>?_⟩⟩);have lsp:(Br k cs ns).length<=8:=by rw[Ov ln]; exact l8
 generalize Br k cs ns=sp at ps q lsp;have ly:=ps.len;refine (vE rfl (vE rfl ⟨a,ys,sp,k,rfl,ha,ps,lsp,fun l ms H2 s2 nl hl up mem l20=>?_⟩));refine⟨zAB _,fun r nr=>?_⟩;have ha2:=s2 _ _ ha;have ps2:=ps.mono (Bq s2);have S2:=s1.trans s2;refine Dp [some (.ref p),some (.ref ct),some (.int k),some (.ref a),some (.ref l),some (.ref r),none,none,none] rfl ?_;have t1:=An nr (.lst []);refine (vE rfl (vE rfl (vE rfl ⟨l,_,rfl,SqL.of (t1 _ _ hl),fun m nm'=>?_⟩)));rw[GM,<- List.map_drop];have t2:=An nm' (.lst ((ms.drop 1).map V.int));have lrm:r≠m:=Ap Ab nm';have hr3:upd (upd H2 r (.lst [])) m (.lst ((ms.drop 1).map V.int)) r=some (.lst []):=by rw[Ar lrm,Ab]
 have hm3:upd (upd H2 r (.lst [])) m (.lst ((ms.drop 1).map V.int)) m=some (.lst ((ms.drop 1).map V.int)):=Ab;have s3:=t1.trans t2;have nm2:H2 m=none:=t1.free nm';generalize upd (upd H2 r (.lst [])) m (.lst ((ms.drop 1).map V.int))=H3 at hr3 hm3 s3;have sm:∀ (H4:Hp) (o:HO),Same H2 H4->Same H2 (upd H4 r o):=fun H4 o s4 b u z=>by rw[Ar (Ap z nr)]; exact s4 b u z
 refine⟨l,m,rfl,⟨_,SqL.of (s3 _ _ hl)⟩,⟨_,SqL.of hm3⟩,GK (K:=K) (K':=K) (a:=l) (b:=m) (xs:=ms.map V.int) (ys:=(ms.drop 1).map V.int)
  (fun i σ H4=>(∃ o6 o7 o8 zs,σ=[some (.ref p),some (.ref ct),some (.int k),some (.ref a),some (.ref l),some (.ref r),o6,o7,o8]/\H4 r=some (.lst zs)/\Trs H4 zs (CRP.foldP sp ms i))/\H4 m=some (.lst ((ms.drop 1).map V.int))/\Same H2 H4)
  ⟨⟨none,none,none,[],rfl,hr3,trivial⟩,hm3,s3⟩ (fun i σ H4 _ ⟨_,e,s4⟩=>⟨SqL.of (s4 _ _ hl),SqL.of e⟩) ?_ ?_⟩
 ·rintro i x y σ H4 t hx hy ⟨⟨o6,o7,o8,zs,rfl,hr4,pk⟩,hm4,s4⟩ nt
  rw[zAw] at hx hy;obtain⟨lo,hlo,rfl⟩:=zAW.mp hx;obtain⟨hi,hhi,rfl⟩:=zAW.mp hy;rw[List.getElem?_drop] at hhi;have elo:ms.getD i 0=lo:=by rw[zAs,hlo]; rfl
  have ehi:ms.getD (i+1) 0=hi:=by rw[zAs,show i+1=1+i by lia,hhi]; rfl
  have nx:=CRP.foldP_succ sp ms i;rw[elo,ehi] at nx;have il:i<ms.length:=(zAi.mp hlo).1;have lz:=pk.len;have lf:=CRP.foldP_len sp ms i;have u1:=An nt (.tup [V.int lo,.int hi]);have hr5:=u1 _ _ hr4;have hm5:=u1 _ _ hm4;have pk5:=pk.mono (Bq u1);have s5:=s4.trans u1;generalize upd H4 t (.tup [V.int lo,.int hi])=H5 at u1 hr5 hm5 pk5 s5;refine FX [some (.ref p),some (.ref ct),some (.int k),some (.ref a),some (.ref l),some (.ref r),some (.int lo),some (.int hi),o8] rfl ?_;refine (vE rfl (vE rfl ⟨a,ys,sp,lo,rfl,s5 _ _ ha2,ps2.mono (Bq s5),by lia,fun H6 u2=>?_⟩));have hr6:=u2 _ _ hr5;have hm6:=u2 _ _ hm5;have pk6:=pk5.mono (Bq u2);have s6:=s5.trans u2;generalize CRP.fw sp lo=kk at nx;refine Dp [some (.ref p),some (.ref ct),some (.int k),some (.ref a),some (.ref l),some (.ref r),some (.int lo),some (.int hi),some (.int kk)] rfl ?_;have put:∀ (H7:Hp) (vs:List V) (ks:List Tr) (u:Addr) (lo':Int),H7 r=some (.lst vs)->Trs H7 vs ks->H7 u=none->H7 m=some (.lst ((ms.drop 1).map V.int))->Same H2 H7->CRP.foldP sp ms (i+1)=ks++[(lo',hi,kk)] ->
    (∃ o6 o7 o8 zs,[some (V.ref p),some (.ref ct),some (.int k),some (.ref a),some (.ref l),some (.ref r),some (.int lo'),some (.int hi),some (.int kk)]=[some (.ref p),some (.ref ct),some (.int k),some (.ref a),some (.ref l),some (.ref r),o6,o7,o8]/\upd (upd H7 u (.tup [.int lo',.int hi,.int kk])) r (.lst (vs++[.ref u])) r=some (.lst zs)/\Trs (upd (upd H7 u (.tup [.int lo',.int hi,.int kk])) r (.lst (vs++[.ref u]))) zs (CRP.foldP sp ms (i+1))) /\
     upd (upd H7 u (.tup [.int lo',.int hi,.int kk])) r (.lst (vs++[.ref u])) m=some (.lst ((ms.drop 1).map V.int))/\Same H2 (upd (upd H7 u (.tup [.int lo',.int hi,.int kk])) r (.lst (vs++[.ref u]))):=fun H7 vs ks u lo' e1 e2 e3 e4 e5 e6=>by
   have su:=An e3 (.tup [.int lo',.int hi,.int kk]);refine⟨⟨_,_,_,_,rfl,Ab,?_⟩,by rw[Ar lrm.symm]; exact su _ _ e4,sm _ _ (e5.trans su)⟩;rw[e6];exact ((e2.mono (Bq su)).snoc Ab).mono (Df (su _ _ e1) _)
  generalize hks:CRP.foldP sp ms i=ks at pk6 nx lz lf;rcases List.eq_nil_or_concat ks with rfl | ⟨kr,⟨l0,h0,k0⟩,rfl⟩
  ·have zs0:zs=[]:=List.eq_nil_of_length_eq_zero lz
   subst zs0;refine (vE rfl ⟨_,.inl ⟨[],SqL.of hr6,rfl⟩,bF rfl (Dy ?_)⟩);refine (vE rfl ⟨.inl ⟨rfl,_,SqL.of hr6⟩,vE rfl (vE rfl (vE rfl ⟨three,fun u nu=>?_⟩))⟩);exact⟨r,_,_,rfl,rfl,An nu _ _ _ hr6,by rw[zCA]; decide,put H6 [] [] u lo hr6 trivial nu hm6 s6 nx⟩
  ·rw[List.concat_eq_append] at pk6 nx lz lf
   obtain⟨vs,tl,rfl,htl,pv⟩:=pk6.last;rw[CRP.stepP_snoc] at nx;rw[zAm] at lz;have lv:vs.length<=20:=by rw[zAm] at lf; have z:vs.length+1=_:=lz; rw[zAm] at z; lia
   refine (vE rfl ⟨_,.inl ⟨_,SqL.of hr6,rfl⟩,bT (by simp) ?_⟩);refine (vE rfl (vE rfl (vI rfl rfl (SqL.of hr6) (CI _ _) (vI rfl rfl (SqT.of htl) rfl (vE rfl ⟨rfl,vE rfl (Su (fun c=>?_) (fun c=>?_))⟩)))))
   ·have c':k0=kk:=V.int.inj (of_decide_eq_true c)
    rw[if_pos c'] at nx;refine (vE rfl ⟨.inl ⟨rfl,_,SqL.of hr6⟩,r,_,.ref tl,rfl,rfl,hr6,by simp,?_⟩);rw[List.dropLast_concat];have t3:HL H6 (upd H6 r (.lst vs)):=Df hr6 _;have htl7:=t3 _ _ htl;have pv7:=pv.mono t3;have hr7:upd H6 r (.lst vs) r=some (.lst vs):=Ab;have hm7:upd H6 r (.lst vs) m=some (.lst ((ms.drop 1).map V.int)):=by rw[Ar lrm.symm]; exact hm6
    have s7:=sm H6 (.lst vs) s6;generalize upd H6 r (.lst vs)=H7 at t3 htl7 pv7 hr7 hm7 s7;refine (vI rfl rfl (SqT.of htl7) rfl ?_);refine Dp [some (.ref p),some (.ref ct),some (.int k),some (.ref a),some (.ref l),some (.ref r),some (.int l0),some (.int hi),some (.int kk)] rfl ?_;refine (vE rfl ⟨.inl ⟨rfl,_,SqL.of hr7⟩,vE rfl (vE rfl (vE rfl ⟨three,fun u nu=>?_⟩))⟩);exact⟨r,_,_,rfl,rfl,An nu _ _ _ hr7,by rw[zCA]; lia,put H7 vs kr u l0 hr7 pv7 nu hm7 s7 nx⟩
   ·have c':¬ k0=kk:=fun z=>c (decide_eq_true (by rw[z]))
    rw[if_neg c'] at nx;refine (vE rfl ⟨.inl ⟨rfl,_,SqL.of hr6⟩,vE rfl (vE rfl (vE rfl ⟨three,fun u nu=>?_⟩))⟩);exact⟨r,_,_,rfl,rfl,An nu _ _ _ hr6,by rw[zAm,zCA]; show vs.length+1<_; lia,put H6 _ _ u lo hr6 pk6 nu hm6 s6 nx⟩
 ·rintro σ H4 ⟨⟨o6,o7,o8,zs,rfl,hr4,pk⟩,hm4,s4⟩
  have le:min (ms.map V.int).length ((ms.drop 1).map V.int).length=ms.length-1:=by rw[zAb,zAb,zBn]; lia
  rw[le] at pk;exact (vE rfl (q r zs ms H4 (S2.trans s4) (S2.free nr) hr4 up mem l20 pk))
end
abbrev Cv:=Addr×Str×Bool
def Uw (c:Cv):V:=.ref c.1
def CvsAt (C:Addr) (H:Hp) (cs:List Cv):Prop:=∀ c∈cs,∃ dx fs,H c.1=some (.ins C dx fs)/\fs.lookup ("name" : Str)=some (.str c.2.1)/\fs.lookup ("waits" : Str)=some (.bl c.2.2)
theorem CvsAt.same {C:Addr} {H H':Hp} {cs:List Cv} (h:CvsAt C H cs) (s:Same H H'):CvsAt C H' cs:=fun c hc=>by
 obtain⟨dx,fs,e,r⟩:=h c hc;exact⟨dx,fs,s _ _ e,r⟩
theorem CvsAt.get {C:Addr} {H:Hp} {cs:List Cv} {i:Nat} {x:V} (h:CvsAt C H cs) (e:(cs.map Uw)[i]?=some x):∃ c dx fs,cs[i]?=some c/\x = .ref c.1/\c∈cs/\H c.1=some (.ins C dx fs)/\fs.lookup ("name" : Str)=some (.str c.2.1)/\fs.lookup ("waits" : Str)=some (.bl c.2.2):=by
 rw[zAw] at e;obtain⟨c,hc,rfl⟩:=zAW.mp e;have m:=zAF hc;obtain⟨dx,fs,r⟩:=h c m;exact⟨c,dx,fs,hc,rfl,m,r⟩
theorem CvsAt.ne {C CB:Addr} {H:Hp} {cs:List Cv} {p dx:Addr} (h:CvsAt C H cs) (hp:H p=some (.ins CB dx [])):∀ c∈cs,c.1≠p:=fun c hc z=>by
 obtain⟨d2,fs,e,n,_⟩:=h c hc;rw[z,hp] at e;injection e with e;injection e with _ _ e;subst e;cases n
theorem CvsAt.kb {C CB:Addr} {H H':Hp} {cs:List Cv} {p dx:Addr} (h:CvsAt C H cs) (hp:H p=some (.ins CB dx [])) (k:KB p H H'):CvsAt C H' cs:=fun c hc=>by
 obtain⟨d2,fs,e,r⟩:=h c hc;exact⟨d2,fs,k _ _ e (h.ne hp c hc),r⟩
def KZ (cs:List Cv):List Cv:=cs.filter (fun c => !c.2.2)++cs.filter (fun c=>c.2.2)
structure BkAt (CB:Addr) (H:Hp) (p cl ak:Addr) (cs:List Cv):Prop where
 ob:∃ dx fs,H p=some (.ins CB dx fs)/\fs.lookup ("covers" : Str)=some (.ref cl)/\fs.lookup ("asking" : Str)=some (.ref ak)/\fs.lookup ("named" : Str)=none
 hc:H cl=some (.lst (cs.map Uw))
 ha:H ak=some (.lst ((KZ cs).map Uw))
theorem BkAt.same {CB:Addr} {H H':Hp} {p cl ak:Addr} {cs:List Cv} (h:BkAt CB H p cl ak cs) (s:Same H H'):BkAt CB H' p cl ak cs:=by
 obtain⟨⟨dx,fs,e,r⟩,h1,h2⟩:=h;exact⟨⟨dx,fs,s _ _ e,r⟩,s _ _ h1,s _ _ h2⟩
def O0 (C CB:Addr):Sp:=fun vs H Q _=>∃ p dx a cs,vs=[.ref p,.ref a]/\H p=some (.ins CB dx [])/\H a=some (.lst (cs.map Uw))/\CvsAt C H cs/\cs.length<=8/\(cs.map (·.2.1)).Nodup /\
 ∀ cl ak H',KB p H H'->BkAt CB H' p cl ak cs->H cl=none->H ak=none->Q .non H'
theorem Vl {α:Type} {l:List α} {f:α->Bool} {i:Nat} {x:α} (h:l[i]?=some x):(l.take (i+1)).filter f=(l.take i).filter f++if f x=true then [x] else []:=by
 rw[Bz h,List.filter_append];by_cases c:f x=true
 ·rw[if_pos c,zBi c,zBO]
 ·rw[if_neg c,zBj c,zBO]
section
variable {P:Program} {w:World} {K:zAa} {mg:Str->Option Value} {base:Heap} {Ac Ah Ag Am Au Bc Ba At Ae Aw Al Aj Bg Ai Bd Aq:Addr}
theorem Ob:Bb ["self", "covers", "names", "firm", "waiting"] ["self", "covers"] (As Fm):=by injections
theorem Ox {f:Addr} {fd:zCC} (F:Fun K "__init__" "Book.__init__" Fm f fd) (T:Txt K mg) (L:Kl K mg Ac Ah Ag Am Au Bc Ba At Ae Aw Al Aj Bg Ai Bd Aq):FnOk P w K mg base Cu 1 f fd ["self", "covers"] (O0 Ai Bd):=by
 have sc:=Ob;bv_omega
 ·obtain⟨_,_,_,_,rfl,_⟩:=h
  rfl
 obtain⟨p,dx,a,cs,rfl,hp,ha,hcs,l8,nd,q⟩:=h;have l60:cs.length<60:=by lia
 refine⟨_,(Ad (Bv (Bk Vq (Bn By rfl T.n_len (show zCB _=some (.builtin "len") from rfl) (Aa (pv 1) Af)) (Dk T.g_MOST_COVERS rfl) (Bm _))
    (Ao Em)
    Bl)
   (Ad (Kj (NC:=["cover"]) (own:=["cover"]) (cs:=[]) (ix:=[]) (j:=2) sc.nd rfl rfl rfl (CompScope.of rfl) rfl trivial (Cb (pv 1)) (fun _ _ _=>(Az (i:=0) (show (["cover"]:List Str).Nodup from by ac_nf) rfl (Or.inl rfl))) (fun _ _ _=>Dd) (fun _ _ _=>(Kn (K:=K) (pv 0) rfl)))
   (Ad (Bv (Bk Fw (AA (pv 2) rfl rfl T.n_len rfl T.n_set) (Bn By rfl T.n_len (show zCB _=some (.builtin "len") from rfl) (Aa (pv 2) Af)) (Bm _))
    (Ao Em)
    Bl)
   (Ad (Cr (pv 0) (Dz De rfl T.n_list (show zCB _=some (.type "list") from rfl) (Aa (pv 1) Af)) rfl)
   (Ad (Kj (NC:=["cover"]) (own:=["cover"]) (cs:=[]) (ix:=[]) (j:=3) sc.nd rfl rfl rfl (CompScope.of rfl) rfl trivial (Cb (pv 1)) (fun _ _ _=>(Az (i:=0) (show (["cover"]:List Str).Nodup from by ac_nf) rfl (Or.inl rfl))) (fun _ _ _=>(Mg (Dh (Cy (Kn (K:=K) (pv 0) rfl))))) (fun _ _ _=>(pv 0)))
   (Ad (Kj (NC:=["cover"]) (own:=["cover"]) (cs:=[]) (ix:=[]) (j:=4) sc.nd rfl rfl rfl (CompScope.of rfl) rfl trivial (Cb (pv 1)) (fun _ _ _=>(Az (i:=0) (show (["cover"]:List Str).Nodup from by ac_nf) rfl (Or.inl rfl))) (fun _ _ _=>(Mg (Cy (Kn (K:=K) (pv 0) rfl)))) (fun _ _ _=>(pv 0)))
   (Ao (Cr (pv 0) (Ay Hv (pv 3) (pv 4)) rfl)))))))),?_⟩
 have one:1<=sizeLine:=by rw[zCA]; decide
 have k0:KB p H H:=fun _ _ e _=>e;have lm:(cs.map Uw).length=cs.length:=zAb _;have nap:a≠p:=He ha hp (by intro z; cases z);refine (vE rfl ⟨a,_,rfl,.inl (SqL.of ha),vF rfl rfl (vE rfl ?_)⟩);refine dF (by rw[lm]; lia) ?_;refine (vE rfl ⟨a,rfl,⟨_,SqL.of ha⟩,fun n nn=>?_⟩);refine Ck (K:=K) (a:=a) (xs:=cs.map Uw) (fun i ys H2=>ys=((cs.take i).map (·.2.1)).map V.str/\H2 n=some (.lst ys)/\Same H H2) ⟨rfl,Ab,An nn _⟩
  (fun i ys H2 _ ⟨e,h1,s2⟩=>⟨h1,by rw[e,zAb,zAb,zAx]; lia,SqL.of (s2 _ _ ha)⟩) (by rw[zCA]; lia) (fun i x ys H2 hi ⟨e,h1,s2⟩=>?_) (fun ys H2 ⟨e,h1,s2⟩=>?_)
 ·obtain⟨c,dc,fc,ec,rfl,mc,hc,n1,w1⟩:=hcs.get hi
  refine (vE rfl ⟨c.1,Ai,dc,fc,_,rfl,s2 _ _ hc,L.cl_Cover,L.na_Cover_name,n1,h1,rfl,?_,Ab,fun b o z=>?_⟩)
  ·rw[Bz ec,zAr,zAr,e]
   rfl
  ·rw[Ar (Ap z nn)]
   exact s2 b o z
 rw[lm,zAE] at e;subst e;refine Dp [some (.ref p),some (.ref a),some (.ref n),none,none] rfl ?_;have hp2:=s2 _ _ hp;have ha2:=s2 _ _ ha;have k2:KB p H H2:=k0.same s2;have hcs2:=hcs.same s2;refine (vE rfl ⟨n,cs.map (·.2.1),rfl,SqL.of h1,by rw[zAb]; exact l60,fun m m1 m2=>?_⟩);refine (vE rfl ⟨n,_,rfl,.inl (SqL.of h1),vF rfl rfl (vE rfl ?_)⟩);have:=m1 nd;refine dF (by rw[zAb]; lia) ?_;clear m1 m2 this;refine (vE rfl ⟨a,_,rfl,.inl (SqL.of ha2),fun cl ncl=>?_⟩);have s3:=An ncl (.lst (cs.map Uw));have ncp:cl≠p:=(Ap hp2 ncl).symm;refine (vE rfl ⟨p,Bd,dx,[],rfl,s3 _ _ hp2,L.cl_Book,L.na_Book_covers,by decide,?_⟩);have k3:KB p H (upd (upd H2 cl (.lst (cs.map Uw))) p (.ins Bd dx (Bs "covers" (.ref cl) []))):=(k2.same s3).upd _;have e3:upd (upd H2 cl (.lst (cs.map Uw))) p (.ins Bd dx (Bs "covers" (.ref cl) [])) p=some (.ins Bd dx (Bs "covers" (.ref cl) [])):=Ab;have c3:upd (upd H2 cl (.lst (cs.map Uw))) p (.ins Bd dx (Bs "covers" (.ref cl) [])) cl=some (.lst (cs.map Uw)):=by rw[Ar ncp,Ab]
 have fcl:H cl=none:=k2.free ncp ncl;have hcs3:=hcs.kb hp k3;have ha3:=k3 _ _ ha nap;generalize upd (upd H2 cl (.lst (cs.map Uw))) p (.ins Bd dx (Bs "covers" (.ref cl) []))=H3 at k3 e3 c3 hcs3 ha3;refine (vE rfl ⟨a,rfl,⟨_,SqL.of ha3⟩,fun fi nfi=>?_⟩);refine Ck (K:=K) (a:=a) (xs:=cs.map Uw) (fun i ys H4=>ys=((cs.take i).filter (fun c => !c.2.2)).map Uw/\H4 fi=some (.lst ys)/\Same H3 H4) ⟨rfl,Ab,An nfi _⟩
  (fun i ys H4 _ ⟨e,h1,s4⟩=>⟨h1,by rw[e,zAb]; exact zAG (zBg _ _) (by rw[zAx]; lia),SqL.of (s4 _ _ ha3)⟩) (by rw[zCA]; lia) (fun i x ys H4 hi ⟨e,h1,s4⟩=>?_) (fun ys H4 ⟨e,hf4,s4⟩=>?_)
 ·obtain⟨c,dc,fc,ec,rfl,mc,hc,n1,w1⟩:=hcs3.get hi
  refine (vE rfl ⟨c.1,Ai,dc,fc,_,rfl,s4 _ _ hc,L.cl_Cover,L.na_Cover_waits,w1,_,rfl,?_⟩);have es:=Vl (f:=fun c:Cv => !c.2.2) ec;cases cw:c.2.2 with
  | true=>
   refine Dy ⟨rfl,?_,h1,s4⟩;rw[es,e,cw];simp
  | false=>
   refine Po (vE rfl ⟨h1,rfl,?_,Ab,fun b o z=>?_⟩)
   ·rw[es,e,cw]
    simp [Uw]
   ·rw[Ar (Ap z nfi)]
    exact s4 b o z
 rw[lm,zAE] at e;subst e;refine Dp [some (.ref p),some (.ref a),some (.ref n),some (.ref fi),none] rfl ?_;have ha4:=s4 _ _ ha3;have hcs4:=hcs3.same s4;refine (vE rfl ⟨a,rfl,⟨_,SqL.of ha4⟩,fun wa nwa=>?_⟩);refine Ck (K:=K) (a:=a) (xs:=cs.map Uw) (fun i ys H5=>ys=((cs.take i).filter (fun c=>c.2.2)).map Uw/\H5 wa=some (.lst ys)/\Same H4 H5) ⟨rfl,Ab,An nwa _⟩
  (fun i ys H5 _ ⟨e,h1,s5⟩=>⟨h1,by rw[e,zAb]; exact zAG (zBg _ _) (by rw[zAx]; lia),SqL.of (s5 _ _ ha4)⟩) (by rw[zCA]; lia) (fun i x ys H5 hi ⟨e,h1,s5⟩=>?_) (fun ys H5 ⟨e,hw5,s5⟩=>?_)
 ·obtain⟨c,dc,fc,ec,rfl,mc,hc,n1,w1⟩:=hcs4.get hi
  refine (vE rfl ⟨c.1,Ai,dc,fc,_,rfl,s5 _ _ hc,L.cl_Cover,L.na_Cover_waits,w1,_,rfl,?_⟩);have es:=Vl (f:=fun c:Cv=>c.2.2) ec;cases cw:c.2.2 with
  | false=>
   refine Dy ⟨rfl,?_,h1,s5⟩;rw[es,e,cw];simp
  | true=>
   refine Po (vE rfl ⟨h1,rfl,?_,Ab,fun b o z=>?_⟩)
   ·rw[es,e,cw]
    simp [Uw]
   ·rw[Ar (Ap z nwa)]
    exact s5 b o z
 rw[lm,zAE] at e;subst e;refine Dp [some (.ref p),some (.ref a),some (.ref n),some (.ref fi),some (.ref wa)] rfl ?_;have hf5:=s5 _ _ hf4;have e5:=s5 _ _ (s4 _ _ e3);have c5:=s5 _ _ (s4 _ _ c3);have k5:=(k3.same s4).same s5;refine (vE rfl (vE rfl ⟨fi,wa,_,_,rfl,rfl,hf5,hw5,?_,fun ak nak=>?_⟩))
 ·rw[zAb,zAb]
  have:=zBg (fun c:Cv => !c.2.2) cs;have:=zBg (fun c:Cv=>c.2.2) cs;rw[zCA]
  lia
 have nkp:ak≠p:=(Ap e5 nak).symm;have s6:=An nak (.lst ((cs.filter (fun c => !c.2.2)).map Uw++(cs.filter (fun c=>c.2.2)).map Uw));have g3:(Bs "covers" (.ref cl) []).length<=1:=Fg _ _ _;refine (vE rfl ⟨p,Bd,dx,_,rfl,s6 _ _ e5,L.cl_Book,L.na_Book_asking,zCk g3 (by decide),?_⟩);refine q cl ak _ ((k5.same s6).upd _) ⟨⟨dx,_,Ab,by rw[f1 (by ac_nf),f0],f0,by rw[f1 (by ac_nf),f1 (by ac_nf)]; rfl⟩,?_,?_⟩ fcl (k5.free nkp nak)
 ·rw[Ar ncp]
  exact s6 _ _ c5
 ·rw[Ar nkp,Ab]
  unfold KZ;rw[zAr]
end
abbrev Kp:=List (List Dt×V)
def Pj (nm:Str) (k:Int) (y:Dt):List Dt:=[.inr nm,.inl k,y]
structure CtAt (CC:Addr) (H:Hp) (p kp:Addr) (kvs:Kp):Prop where
 ob:∃ dx fs,H p=some (.ins CC dx fs)/\fs.lookup ("kept" : Str)=some (.ref kp)/\fs.lookup ("have" : Str)=none/\fs.lookup ("add" : Str)=none
 hk:H kp=some (.dT kvs)
theorem CtAt.same {CC:Addr} {H H':Hp} {p kp:Addr} {kvs:Kp} (h:CtAt CC H p kp kvs) (s:Same H H'):CtAt CC H' p kp kvs:=by
 obtain⟨⟨dx,fs,e,r⟩,h1⟩:=h;exact⟨⟨dx,fs,s _ _ e,r⟩,s _ _ h1⟩
theorem CtAt.ne {CC:Addr} {H:Hp} {p kp:Addr} {kvs:Kp} (h:CtAt CC H p kp kvs):p≠kp:=by
 obtain⟨⟨dx,fs,e,r⟩,h1⟩:=h;exact He e h1 (by intro z; cases z)
theorem CtAt.put {CC:Addr} {H:Hp} {p kp:Addr} {kvs:Kp} (h:CtAt CC H p kp kvs) (kvs':Kp):CtAt CC (upd H kp (.dT kvs')) p kp kvs':=by
 have n:=h.ne;obtain⟨⟨dx,fs,e,r⟩,h1⟩:=h;exact⟨⟨dx,fs,by rw[Ar n]; exact e,r⟩,Ab⟩
def Sr (kvs:Kp) (nm:Str) (k:Int) (y:Dt):V:=(Eu kvs (Pj nm k y)).getD (.int 0)
def EB (CC:Addr):Sp:=fun vs H Q _=>∃ p dx,vs=[.ref p]/\H p=some (.ins CC dx [])/\∀ kp H',KB p H H'->CtAt CC H' p kp []->H kp=none->Q .non H'
def Yt (CC:Addr):Sp:=fun vs H Q _=>∃ p kp kvs nm k y,vs=[.ref p,.str nm,.int k,kV y]/\CtAt CC H p kp kvs/\∀ H',Same H H'->Q (Sr kvs nm k y) H'
def EW (CC:Addr):Sp:=fun vs H Q _=>∃ p kp kvs nm k y,∃ c n:Int,vs=[.ref p,.str nm,.int k,kV y,.int c]/\CtAt CC H p kp kvs/\Sr kvs nm k y = .int n/\kvs.length<900/\∀ H',Same H H'->Q .non (upd H' kp (.dT (Hb kvs (Pj nm k y) (.int (n+c)))))
section
variable {P:Program} {w:World} {K:zAa} {mg:Str->Option Value} {base:Heap} {Ac Ah Ag Am Au Bc Ba At Ae Aw Al Aj Bg Ai Bd Aq:Addr}
theorem Mc:Bb ["self"] ["self"] (As Eo):=by injections
theorem Lr {f:Addr} {fd:zCC} (F:Fun K "__init__" "Counts.__init__" Eo f fd) (T:Txt K mg) (L:Kl K mg Ac Ah Ag Am Au Bc Ba At Ae Aw Al Aj Bg Ai Bd Aq):FnOk P w K mg base Cu 1 f fd ["self"] (EB Aq):=by
 have sc:=Mc;bv_omega
 ·obtain⟨_,_,rfl,_⟩:=h
  rfl
 obtain⟨p,dx,rfl,hp,q⟩:=h;refine⟨_,(Ao (Cr (pv 0) Zm rfl)),?_⟩;intro kp nk;have s1:=An nk (.dT []);have np:kp≠p:=(Ap hp nk).symm;have k0:KB p H H:=fun _ _ e _=>e;refine (vE rfl ⟨p,Aq,dx,[],rfl,s1 _ _ hp,L.cl_Counts,L.na_Counts_kept,by decide,?_⟩);refine q kp _ ((k0.same s1).upd _) ⟨⟨dx,_,Ab,f0,by rw[f1 (by ac_nf)]; rfl,by rw[f1 (by ac_nf)]; rfl⟩,?_⟩ nk;rw[Ar np,Ab]
theorem Sm:Bb ["self", "name", "k", "key"] ["self", "name", "k", "key"] (As Hm):=by injections
theorem Sy {f:Addr} {fd:zCC} (F:Fun K "have" "Counts.have" Hm f fd) (T:Txt K mg) (L:Kl K mg Ac Ah Ag Am Au Bc Ba At Ae Aw Al Aj Bg Ai Bd Aq):FnOk P w K mg base Cu 1 f fd ["self", "name", "k", "key"] (Yt Aq):=by
 have sc:=Sm;bv_omega
 ·obtain⟨_,_,_,_,_,_,rfl,_⟩:=h
  rfl
 obtain⟨p,kp,kvs,nm,k,y,rfl,ct,q⟩:=h;have hu2:=BD hr;refine⟨_,(Ao (Be (DY hu2 (Cq (pv 0) rfl) (Cc (Aa (pv 1) (Aa (pv 2) (Aa (pv 3) Af)))) Ak ⟨rfl,rfl,rfl,rfl⟩))),?_⟩;obtain⟨⟨dx,fs,hp,b1,_,_⟩,hk⟩:=ct;refine (vE rfl ⟨p,Aq,dx,fs,_,rfl,hp,L.cl_Counts,L.na_Counts_kept,b1,kp,rfl,.inr ⟨kvs,.inl hk⟩,vE rfl (vE rfl (vE rfl ⟨Ci (by show 3<=1000; decide),fun t nt=>?_⟩))⟩);have s1:=An nt (.tup [V.str nm,.int k,kV y]);exact⟨_,DGet.t (k:=Pj nm k y) (s1 _ _ hk) Ab,q _ s1⟩
theorem Uc:Bb ["self", "name", "k", "key", "cents"] ["self", "name", "k", "key", "cents"] (As Ij):=by injections
theorem Ue {f:Addr} {fd:zCC} (F:Fun K "add" "Counts.add" Ij f fd) (T:Txt K mg) (L:Kl K mg Ac Ah Ag Am Au Bc Ba At Ae Aw Al Aj Bg Ai Bd Aq) (Mhave:Iv P w K mg base 1 Aq "have" ["self", "name", "k", "key"] (Yt Aq)):FnOk P w K mg base Cu 2 f fd ["self", "name", "k", "key", "cents"] (EW Aq):=by
 have sc:=Uc;bv_omega
 ·obtain⟨_,_,_,_,_,_,_,_,rfl,_⟩:=h
  rfl
 obtain⟨p,kp,kvs,nm,k,y,c,n,rfl,ct,en,l9,q⟩:=h;have hu2:=BD hr;refine⟨_,(Ao (S9 hu2 (Cq (pv 0) rfl) (Cc (Aa (pv 1) (Aa (pv 2) (Aa (pv 3) Af)))) (Ay Cd (Ed Mhave (hr.mono (by decide)) (pv 0) (Aa (pv 1) (Aa (pv 2) (Aa (pv 3) Af)))) (pv 4)) rfl)),?_⟩;obtain⟨⟨dx,fs,hp,b1,b2,b3⟩,hk⟩:=id ct;refine (vE rfl ⟨p,dx,fs,rfl,hp,b2,_,rfl,vE rfl (vE rfl ⟨p,kp,kvs,nm,k,y,rfl,ct,fun H1 s1=>?_⟩)⟩);rw[en];refine (vE rfl (vF rfl rfl ?_));refine (vE rfl ⟨p,Aq,dx,fs,_,rfl,s1 _ _ hp,L.cl_Counts,L.na_Counts_kept,b1,_,rfl,vE rfl (vE rfl ⟨Ci (by show 3<=1000; decide),fun t nt=>?_⟩)⟩);have s2:=An nt (.tup [V.str nm,.int k,kV y]);exact⟨kp,_,rfl,DPut.t (k:=Pj nm k y) (s2 _ _ (s1 _ _ hk)) Ab (by rw[zCA]; lia),q _ (s1.trans s2)⟩
end
def GU (i:Int):Nat:=97+(i%26).toNat
theorem Se (i:Int):Fj (GU i):=by
 unfold Fj GU;have h0:0<=i%26:=Int.emod_nonneg _ (by decide);have h1:i%26<26:=Int.emod_lt_of_pos _ (by decide)
 lia
theorem DW (i:Int):Me (Str.ofString "abcdefghijklmnopqrstuvwxyz").cps.toList (i%26)=some (GU i):=by
 have e:(Str.ofString "abcdefghijklmnopqrstuvwxyz").cps.toList=(zAI 26).map (97 + ·):=by ac_nf
 have h0:0<=i%26:=Int.emod_nonneg _ (by decide);have h1:i%26<26:=Int.emod_lt_of_pos _ (by decide);obtain⟨k,ek⟩:=Int.eq_ofNat_of_zero_le h0;rw[e];unfold GU;rw[ek];refine Dr ?_;rw[zAw,List.getElem?_range (by lia)];rfl
theorem V3:(Str.ofString "abcdefghijklmnopqrstuvwxyz").length<=sizeLine:=by
 have e:(Str.ofString "abcdefghijklmnopqrstuvwxyz").length=26:=by ac_nf
 rw[e];exact Ci (by decide)
theorem Na {i:Nat} {v:Int} {nx:St->Hp->Prop} {σ:St} {H:Hp} (lo hi:Int) (h0:lo<=v/\v<=hi) (h:∀ x:Int,lo<=x->x<=hi->Ey i (.int x) σ H nx):Ey i (.int v) σ H nx:=h v h0.1 h0.2
theorem md {a b:Int} (h:0<b):0<=a%b/\a%b<=b-1:=⟨Int.emod_nonneg _ (by lia),by have:=Int.emod_lt_of_pos a h; lia⟩
def FE:List Nat:=[115,101,108,102]
theorem U5:Str.ofString "self" = tx FE:=by ac_nf
theorem PM:Str.ofString "q" = tx [113]:=by ac_nf
theorem IJ {l m:List Nat} (h:tx l=tx m):l=m:=by
 have:=congrArg (fun z=>z.cps.toList) h
 simpa [tx] using this
structure Nms (ns:List Str):Prop where
 hi:ns.length<=8
 nd:ns.Nodup
 ok:∀ z∈ns,Pe (.str z)=true/\z.length<=8/\z ≠ "self"
theorem DU (g:Nat->List Nat) {k:Nat} (k8:k<=8) (nm:∀ i,i<k->Qq (g i)) (ns:∀ i,i<k->g i≠FE) (inj:∀ i j,i<k->j<k->g i=g j->i=j):Nms ((zAI k).map fun i=>tx (g i)):=by
 refine⟨by rw[zAb,zAL]; exact k8,?_,fun z hz=>?_⟩
 ·rw[zBt,zBI]
  refine List.Pairwise.imp_of_mem (R:=fun a b=>a≠b) (fun {i j} hi hj n e=>n ?_) (zBt.mp List.nodup_range);exact inj i j (zBu.mp hi) (zBu.mp hj) (IJ e)
 ·obtain⟨i,hi,rfl⟩:=zAy.mp hz
  have hi':=zBu.mp hi;have n:=nm i hi';refine⟨decide_eq_true n,by rw[Ft]; exact n.1.2,fun h=>?_⟩;have h':tx (g i)=Str.ofString "self" := h;rw[U5] at h';exact ns i hi' (IJ h')
def O1 (c k:Nat):List Nat:=zAv (k+1) c
theorem FR (c m:Nat):(zAv m [c]).flatten=zAv m c:=by
 induction m with
 | zero=>rfl
 | succ m ih=>rw[zBs,zBy,ih,zBs]; rfl
theorem U1 {c k:Nat} (hc:Fj c) (k8:k<=8):Nms ((zAI k).map fun i=>tx (O1 c i)):=by
 refine DU (O1 c) k8 (fun i hi=>⟨by unfold O1; rw[zBe]; lia,fun d hd=>?_⟩) (fun i hi z=>?_) (fun i j hi hj e=>?_)
 ·rw[zCl hd]
  exact hc
 ·unfold O1 at z
  have h1:(115:Nat)∈zAv (i+1) c:=by rw[z]; decide
  have h2:(101:Nat)∈zAv (i+1) c:=by rw[z]; decide
  have e1:=zCl h1;have e2:=zCl h2
  lia
 ·have:=congrArg List.length e
  unfold O1 at this;rw[zBe,zBe] at this
  lia
def LM (m:Int) (a k j:Nat):Nat:=GU (m+(j:Int)*j+(k:Int)*(if j=a then 1 else 0))
def FW (m:Int) (a n k:Nat):List Nat:=(zAI n).map (LM m a k)
theorem GV (m:Int) (a n k:Nat):(FW m a n k).length=n:=by unfold FW; rw[zAb,zAL]
theorem HF {m:Int} {a n k:Nat} (ha:a<n) (n8:n<=8) (k8:k<=8) (h:∀ i,i<k->FW m a n i≠FE):Nms ((zAI k).map fun i=>tx (FW m a n i)):=by
 refine DU (FW m a n) k8 (fun i hi=>⟨by rw[GV]; lia,fun c hc=>?_⟩) h (fun i j hi hj e=>?_)
 ·unfold FW at hc
  obtain⟨j,_,rfl⟩:=zAy.mp hc;exact Se _
 ·have e:=congrArg (fun l=>l[a]?) e
  unfold FW at e;simp only [zAw,List.getElem?_range ha,zCi,Option.some.injEq] at e;unfold LM GU at e;simp only [if_true] at e;generalize m+(a:Int)*a=v at e;have a0:0<=(v+(i:Int)*1)%26:=Int.emod_nonneg _ (by decide);have b0:0<=(v+(j:Int)*1)%26:=Int.emod_nonneg _ (by decide)
  lia
theorem in_strs {z:Str} {l:List Str}:LK (.str z) (l.map V.str)=true↔z∈l:=by
 unfold LK;rw[List.any_map,zCx];constructor
 ·rintro ⟨y,hy,e⟩
  have e':Wc (.str y) (.str z)=true:=e;have:y=z:=by simpa [Wc] using e'
  rw[<- this];exact hy
 ·intro h
  exact⟨z,h,by show Wc (.str z) (.str z)=true; simp [Wc]⟩
def Qk:Sp:=fun vs H Q _=>∃ c k:Int,vs=[.int c,.int k]/\0<=c/\0<=k/\k<=8/\∀ r ns H',Same H H'->H r=none->H' r=some (.lst (ns.map V.str))->Nms ns->(ns.length:Int)=k->Q (.ref r) H'
section
seal L2.PS L2.PSs L2.PE L2.PA
variable {P:Program} {w:World} {K:zAa} {mg:Str->Option Value} {base:Heap}
theorem Uz:Bb ["_law_cell_here", "_law_many", "_law_letters", "_law_size", "_law_at", "_law_first", "_law_names_here", "_law_k", "_law_name", "_law_j"] ["_law_cell_here", "_law_many"] (As Ir):=by injections
theorem Ux {f:Addr} {fd:zCC} (F:Fun K "_law_names" "_law_names" Ir f fd) (T:Txt K mg):FnOk P w K mg base Cu 1 f fd ["_law_cell_here", "_law_many"] Qk:=by
 have sc:=Uz;bv_omega
 ·obtain⟨_,_,rfl,_⟩:=h
  rfl
 obtain⟨c,k,rfl,c0,k1,k8,q⟩:=h;refine⟨_,(Ad (Bf (i:=2) sc.nd rfl (Or.inr rfl) Ca)
   (Ad (Bf (i:=3) sc.nd rfl (Or.inl rfl) (Ay Cd Ak (Ay Bu (pv 0) Ak)))
   (Ad (Bf (i:=4) sc.nd rfl (Or.inl rfl) (Ay Bu (Ay Bw (pv 0) Ak) (pv 3)))
   (Ad (Bf (i:=5) sc.nd rfl (Or.inr rfl) (Ay Bw (pv 0) Ak))
   (Ad (Bv (Bk Db (Ay Bu (Ay Bw (pv 0) Ak) Ak) Ak (Bm _))
    (Ao (Be (Dj (NC:=["_law_k", "_law_letters", "_law_first"]) (own:=["_law_k"]) (cs:=["_law_letters", "_law_first"]) (ix:=[2,5]) rfl (CompScope.of rfl) rfl ⟨⟨rfl,.inl rfl,rfl⟩,⟨⟨rfl,.inl rfl,rfl⟩,trivial⟩⟩ (Cw rfl T.n_range (Aa (pv 1) Af)) (fun _ _ _=>(Az (i:=0) (show (["_law_k", "_law_letters", "_law_first"]:List Str).Nodup from by ac_nf) rfl (Or.inl rfl))) (fun _ _ _=>Dd) (fun _ _ _=>(Ay Qz (Bh EL (pv 1) (Ay Bu (pv 2) Ak) (fun _ _=>rfl)) (Ay Cd (pv 0) Ak))))))
    Bl)
   (Ad (Bf (i:=6) sc.nd rfl (Or.inl rfl) (Cg Af))
   (Ad (Cm PassesOwn.never rfl (Cw rfl T.n_range (Aa (pv 1) Af)) (Az (i:=7) sc.nd rfl (Or.inl rfl))
    (Ad (Bf (i:=8) sc.nd rfl (Or.inl rfl) Ca)
   (Ad (Cm PassesOwn.never rfl (Cw rfl T.n_range (Aa (pv 3) Af)) (Az (i:=9) sc.nd rfl (Or.inl rfl))
    (Ao (Bf (i:=8) sc.nd rfl (Or.inl rfl) (Ay Gm (pv 8) (Bh EL (pv 2) (Ay Bu (Ay Cd (Ay Cd (pv 5) (Ay Eb (pv 9) (pv 9))) (Ay Eb (pv 7) (Dz AN rfl T.n_int (show zCB _=some (.type "int") from rfl) (Aa (Hf Db (pv 9) (pv 4) (Bm _)) Af)))) Ak) (fun _ _=>rfl))))))
   (Ao (Cp (Gi PySem.F.plainAttrs_list PySem.F.slot_list_append PySem.F.type_list_append Dm (pv 6) (Aa (pv 8) Af)))))))
   (Ad (Bv (Bk Vo Ca (pv 6) rfl)
    (Ao (Be (Dj (NC:=["_law_k"]) (own:=["_law_k"]) (cs:=[]) (ix:=[]) rfl (CompScope.of rfl) rfl trivial (Cw rfl T.n_range (Aa (pv 1) Af)) (fun _ _ _=>(Az (i:=0) (show (["_law_k"]:List Str).Nodup from by ac_nf) rfl (Or.inl rfl))) (fun _ _ _=>Dd) (fun _ _ _=>(Ay Qz Ca (Ay Cd (pv 0) Ak))))))
    Bl)
   (Ao (Be (pv 6))))))))))),?_⟩
 have m0:0<=c%8:=Int.emod_nonneg _ (by decide);have m8:c%8<8:=Int.emod_lt_of_pos _ (by decide);refine (vE rfl (vF rfl rfl ⟨(by show (0:Int)<8; decide),_,_,rfl,rfl,?_⟩));refine Na 1 8 ⟨by lia,by lia⟩ fun sz z1 z8=>?_;obtain⟨n,rfl⟩:=Int.eq_ofNat_of_zero_le (show 0<=sz by lia);refine (vE rfl (vF rfl rfl ⟨⟨by decide,by decide⟩,_,rfl,vF rfl rfl ⟨(by show (0:Int)<(n:Int); lia),?_⟩⟩));refine Na 0 ((n:Int)-1) (md (by lia)) fun at' at0 at1=>?_;obtain⟨a,rfl⟩:=Int.eq_ofNat_of_zero_le at0;have ha:a<n:=by lia
 refine (vE rfl (vF rfl rfl ⟨⟨by decide,by decide⟩,?_⟩));refine Dp [some (.int c),some (.int k),some (.str "abcdefghijklmnopqrstuvwxyz"),some (.int n),some (.int a),some (.int (c/320)),none,none,none,none] rfl ?_;generalize c/320=m;refine (vE rfl (vF rfl rfl ⟨⟨by decide,by decide⟩,_,_,rfl,rfl,(by show (0:Int)<5; decide),rfl,vE rfl ?_⟩));by_cases c5:c/64%5=1
 ·-- one Fj,more and more often
  refine dT (congrArg V.int c5) (vE rfl (vE rfl ⟨by lia,by lia,fun r nr=>?_⟩));refine Lq (lo:=0) (n:=k.toNat) (fun i ys H2=>ys=((zAI i).map fun i=>tx (O1 (GU m) i)).map V.str/\H2 r=some (.lst ys)/\Same H H2) ⟨rfl,Ab,An nr _⟩
   (fun i ys H2 _ ⟨e,h1,_⟩=>⟨h1,by rw[e,zAb,zAb,zAL]; exact zAn _⟩) (by rw[zCA]; lia) (fun i ys H2 hi ⟨e,h1,s1⟩=>?_) (fun ys H2 ⟨e,h1,s1⟩=>?_)
  ·refine (vE rfl (vE rfl (vF rfl rfl ⟨(by show (0:Int)<26; decide),_,_,_,rfl,rfl,V3,DW _,_,rfl,vF rfl rfl ⟨[GU m],_,rfl,rfl,by lia,by lia,(show 1<=1000 from by decide),h1,rfl,?_,Ab,fun x o z=>?_⟩⟩)))
   ·rw[e,FR,show (0+(i:Int)+1).toNat=i+1 by lia,zBN,zAr,zAr]
    rfl
   ·rw[Ar (Ap z nr)]
    exact s1 x o z
  subst e;exact q r _ H2 s1 nr h1 (U1 (Se m) (by lia)) (by rw[zAb,zAL]; lia)
 refine dF (fun z=>c5 (V.int.inj z)) ?_;refine⟨zAB _,fun r nr=>?_⟩;have s1:=An nr (.lst []);refine (vE rfl (vE rfl ⟨by lia,by lia,?_⟩));refine Dq (lo:=0) (n:=k.toNat)
  (fun i σ H3=>(∃ o7 o8 o9:Option V,σ=[some (.int c),some (.int k),some (.str "abcdefghijklmnopqrstuvwxyz"),some (.int n),some (.int a),some (.int m),some (.ref r),o7,o8,o9])/\H3 r=some (.lst (((zAI i).map fun i=>tx (FW m a n i)).map V.str))/\Same H H3)
  ⟨⟨none,none,none,rfl⟩,Ab,s1⟩ ?_ ?_
 ·rintro i σ H3 hi ⟨⟨o7,o8,o9,rfl⟩,h3,s3⟩
  have i8:i<8:=by lia
  rw[show (0+(i:Int))=(i:Int) by lia];refine (vE rfl (vE rfl ⟨by lia,by lia,?_⟩));refine Dq (lo:=0) (n:=(n:Int).toNat) (fun j σ H4=>(∃ o9,σ=[some (.int c),some (.int k),some (.str "abcdefghijklmnopqrstuvwxyz"),some (.int n),some (.int a),some (.int m),some (.ref r),some (.int i),some (.str (tx ((zAI j).map (LM m a i)))),o9])/\H4=H3) ⟨⟨o9,rfl⟩,rfl⟩ ?_ ?_
  ·rintro j σ H4 hj ⟨⟨o9',rfl⟩,rfl⟩
   have hj':j<n:=by lia
   rw[show (0+(j:Int))=(j:Int) by lia];refine (vE rfl (vE rfl (vE rfl (vE rfl (vE rfl (vF rfl rfl ⟨.inl ⟨by lia,by lia⟩,vF rfl rfl (vE rfl (vE rfl (vE rfl ⟨rfl,.inr (vE rfl (vF rfl rfl ⟨.inl ⟨by lia,by lia⟩,vF rfl rfl (vF rfl rfl ⟨(by show (0:Int)<26; decide),_,_,_,rfl,rfl,V3,DW _,_,_,rfl,rfl,?_,⟨some (.int j),?_⟩,rfl⟩)⟩))⟩)))⟩))))))
   ·rw[Ft,zAb,zAL,zCA]
    show j+1<=_
    lia
   ·have e1:(if decide (V.int (j:Int)=V.int (a:Int))=true then (1:Int) else 0)=if j=a then 1 else 0:=by
     by_cases z:j=a
     ·rw[if_pos z,if_pos (decide_eq_true (by rw[z]))]
     ·rw[if_neg z,if_neg (fun y=>z (by have:=V.int.inj (of_decide_eq_true y); lia))]
    have e2:tx ((zAI j).map (LM m a i))++(⟨#[GU (m+(j:Int)*j+(i:Int)*(if decide (V.int (j:Int)=V.int (a:Int))=true then (1:Int) else 0))]⟩:Str)=tx ((zAI (j+1)).map (LM m a i)):=by
     rw[e1,zBN,zAr];exact Re _ [_]
    exact congrArg (fun z=>[some (V.int c),some (V.int k),some (V.str "abcdefghijklmnopqrstuvwxyz"),some (V.int n),some (V.int a),some (V.int m),some (V.ref r),some (V.int i),some (V.str z),some (V.int j)]) e2
  ·rintro σ H4 ⟨⟨o9',rfl⟩,rfl⟩
   have el:(zAI (n:Int).toNat).map (LM m a i)=FW m a n i:=by rw[Int.toNat_natCast]; rfl
   rw[el];refine (vE rfl ⟨.inl ⟨rfl,_,SqL.of h3⟩,vE rfl ⟨r,_,_,rfl,rfl,h3,?_,⟨⟨_,_,_,rfl⟩,?_,fun x o z=>?_⟩⟩⟩)
   ·rw[zAb,zAb,zAL,zCA]
    lia
   ·rw[Ab,zBN,zAr,zAr]
    rfl
   ·rw[Ar (Ap z nr)]
    exact s3 x o z
 ·rintro σ H3 ⟨⟨o7,o8,o9,rfl⟩,h3,s3⟩
  refine (vE rfl ⟨r,_,rfl,.inl (SqL.of h3),rfl,AV _,_,rfl,?_⟩);by_cases cs:(Str.ofString "self")∈(zAI k.toNat).map fun i=>tx (FW m a n i)
  ·refine bT (in_strs.mpr cs) (vE rfl (vE rfl ⟨by lia,by lia,fun r2 nr2=>?_⟩))
   refine Lq (lo:=0) (n:=k.toNat) (fun i ys H4=>ys=((zAI i).map fun i=>tx (O1 113 i)).map V.str/\H4 r2=some (.lst ys)/\Same H3 H4) ⟨rfl,Ab,An nr2 _⟩
    (fun i ys H4 _ ⟨e,h1,_⟩=>⟨h1,by rw[e,zAb,zAb,zAL]; exact zAn _⟩) (by rw[zCA]; lia) (fun i ys H4 hi ⟨e,h1,s4⟩=>?_) (fun ys H4 ⟨e,h1,s4⟩=>?_)
   ·refine (vE rfl (vF rfl rfl ⟨[113],_,congrArg V.str PM,rfl,by lia,by lia,(show 1<=1000 from by decide),h1,rfl,?_,Ab,fun x o z=>?_⟩))
    ·rw[e,FR,show (0+(i:Int)+1).toNat=i+1 by lia,zBN,zAr,zAr]
     rfl
    ·rw[Ar (Ap z nr2)]
     exact s4 x o z
   subst e;exact q r2 _ H4 (s3.trans s4) (s3.free nr2) h1 (U1 (by unfold Fj; decide) (by lia)) (by rw[zAb,zAL]; lia)
  ·refine bF (zBc.mpr fun z=>cs (in_strs.mp z)) (vE rfl ?_)
   refine q r _ H3 s3 nr h3 (HF ha (by lia) (by lia) fun i hi e=>cs ?_) (by rw[zAb,zAL]; lia);refine zAy.mpr ⟨i,zBu.mpr hi,?_⟩;rw[e,<- U5]
end
def Ia:Sp:=fun vs H Q _=>∃ c:Int,vs=[.int c]/\∀ r:Int,0<=r->r<=2147483646->Q (.int r) H
section
variable {P:Program} {w:World} {K:zAa} {mg:Str->Option Value} {base:Heap}
theorem Rl:Bb ["_law_cell_here"] ["_law_cell_here"] (As Hr):=by injections
theorem Sn {f:Addr} {fd:zCC} (F:Fun K "_law_spread" "_law_spread" Hr f fd) (T:Txt K mg):FnOk P w K mg base Cu 1 f fd ["_law_cell_here"] Ia:=by
 have sc:=Rl;bv_omega
 ·obtain⟨_,rfl,_⟩:=h
  rfl
 obtain⟨c,rfl,q⟩:=h;refine⟨_,(Ao (Be (Ay Bu (Ay Eb (pv 0) Ak) Ak))),?_⟩;refine (vE rfl (vF rfl rfl ⟨.inr ⟨by decide,by decide⟩,vF rfl rfl ⟨(by show (0:Int)<2147483647; decide),?_⟩⟩));have b:=md (a:=c*48271) (b:=2147483647) (by decide);exact q _ b.1 (by have:=b.2; lia)
end
structure LF where
 n:Int
 d:Int
 ev:Str
 th:Str
 ca:Str
 ct:Int
def LF.vs (z:LF):List V:=[.int z.n,.int z.d,.str z.ev,.str z.th,.str z.ca,.int z.ct]
def LF.ls (z:LF):LS:=⟨z.d,z.th,z.ca,z.ct⟩
theorem LU {H:Hp} {l:Addr} {z:LF} (h:H l=some (.tup z.vs)):MQ H l z.ls:=⟨z.ev,z.n,h⟩
structure Cvx where
 p:Addr
 nm:Str
 t:Gx
 cs:List Cl
 wt:Bool
def xV (x:Cvx):V:=.ref x.p
def CvxAt (κ:A8) (CC CO CL CM C:Addr) (H:Hp) (x:Cvx):Prop:=∃ dx fs cv cl xs,H x.p=some (.ins C dx fs)/\fs.lookup ("name" : Str)=some (.str x.nm)/\fs.lookup ("condition" : Str)=some cv/\fs.lookup ("clauses" : Str)=some (.ref cl)/\fs.lookup ("waits" : Str)=some (.bl x.wt)/\noM5 fs /\
 CdAt κ H cv x.t/\H cl=some (.lst xs)/\Cls4 CC CO CL CM H xs x.cs/\x.cs.length<=8
theorem CvxAt.same {κ:A8} {CC CO CL CM C:Addr} {H H':Hp} {x:Cvx} (h:CvxAt κ CC CO CL CM C H x) (s:Same H H'):CvxAt κ CC CO CL CM C H' x:=by
 obtain⟨dx,fs,cv,cl,xs,e,a1,a2,a3,a4,a5,a6,a7,a8,a9⟩:=h;exact⟨dx,fs,cv,cl,xs,s _ _ e,a1,a2,a3,a4,a5,CdAt.same s _ a6,s _ _ a7,a8.mono (Mp s),a9⟩
def Tk (y:Str) (z:LF):Dt:=if y = "event" then .inr z.ev else if y = "thing" then .inr z.th else if y = "year" then .inl (z.d/365) else .inl z.n
theorem JW (y:Str) (z:LF):GY y z.n z.d z.ev z.th=kV (Tk y z):=by
 unfold GY Tk;by_cases c1:y = "event"
 ·rw[if_pos c1,if_pos c1]; rfl
 rw[if_neg c1,if_neg c1];by_cases c2:y = "thing"
 ·rw[if_pos c2,if_pos c2]; rfl
 rw[if_neg c2,if_neg c2];by_cases c3:y = "year"
 ·rw[if_pos c3,if_pos c3]; rfl
 rw[if_neg c3,if_neg c3]; rfl
def IntV (kvs:Kp):Prop:=∀ k v,Eu kvs k=some v->∃ n:Int,v = .int n
theorem IntV.have {kvs:Kp} (h:IntV kvs) (nm:Str) (k:Int) (y:Dt):∃ n:Int,Sr kvs nm k y = .int n:=by
 unfold Sr;cases z:Eu kvs (Pj nm k y) with
 | none=>exact⟨0,rfl⟩
 | some v=>
  obtain⟨n,rfl⟩:=h _ _ z;exact⟨n,rfl⟩
def IE:V->Int
 | .int n=>n
 | _=>0
def Jz (kvs:Kp) (nm:Str) (z:LF) (cs:List Cl) (i:Nat):List Int:=(zAI i).map fun (j:Nat)=>IE (Sr kvs nm (j:Int) (Tk ((cs[j]?).getD (.any "")).way z))
def numsOf (kvs:Kp) (z:LF) (x:Cvx):List Int:=Jz kvs x.nm z x.cs x.cs.length
theorem D3 (kvs:Kp) (z:LF) (x:Cvx):(numsOf kvs z x).length=x.cs.length:=by unfold numsOf Jz; rw[zAb,zAL]
def O5 (κ:A8) (CC CO CL CM C:Addr) (m:Nat):Sp:=fun vs H Q _=>∃ x l,∃ z:LF,vs=[.ref x.p,.ref l]/\CvxAt κ CC CO CL CM C H x/\Ow x.t<m/\H l=some (.tup z.vs)/\Q (.bl (hT x.t z.ls)) H
def G4 (κ:A8) (CC CO CL CM C CN:Addr):Sp:=fun vs H Q _=>∃ x cp kp kvs l z,vs=[.ref x.p,.ref cp,.ref l]/\CvxAt κ CC CO CL CM C H x/\CtAt CN H cp kp kvs/\IntV kvs/\H l=some (.tup (LF.vs z))/\∀ r H',Same H H'->H r=none->H' r=some (.lst ((numsOf kvs z x).map V.int))->Q (.ref r) H'
def AskAt (κ:A8) (CC CO CL CM C CB:Addr) (H:Hp) (b:Addr) (bs:List Cvx):Prop:=∃ dx fs ak,H b=some (.ins CB dx fs)/\fs.lookup ("asking" : Str)=some (.ref ak)/\H ak=some (.lst (bs.map xV))/\∀ x∈bs,CvxAt κ CC CO CL CM C H x
def asked (z:LF) (bs:List Cvx):List Cvx:=bs.filter fun x=>hT x.t z.ls
def Yc (κ:A8) (CC CO CL CM C CB:Addr) (m:Nat):Sp:=fun vs H Q _=>∃ b l bs z,vs=[.ref b,.ref l]/\AskAt κ CC CO CL CM C CB H b bs/\(∀ x∈bs,Ow x.t<m)/\bs.length<=60/\H l=some (.tup (LF.vs z))/\∀ r H',Same H H'->H r=none->H' r=some (.lst ((asked z bs).map xV))->Q (.ref r) H'
section
variable {P:Program} {w:World} {K:zAa} {mg:Str->Option Value} {base:Heap} {Ac Ah Ag Am Au Bc Ba At Ae Aw Al Aj Bg Ai Bd Aq:Addr}
theorem Uk:Bb ["self", "loss"] ["self", "loss"] (As Jf):=by injections
theorem Ug {f:Addr} {fd:zCC} (F:Fun K "asks" "Cover.asks" Jf f fd) (T:Txt K mg) (L:Kl K mg Ac Ah Ag Am Au Bc Ba At Ae Aw Al Aj Bg Ai Bd Aq) {m:Nat} (Mholds:Px P w K mg base m (A8.Fam (A8.mk Ac Ah Ag Am Au Bc Ba At)) "holds" ["self", "loss"] (Ds (A8.mk Ac Ah Ag Am Au Bc Ba At) m)):FnOk P w K mg base Cu (m+1) f fd ["self", "loss"] (O5 (A8.mk Ac Ah Ag Am Au Bc Ba At) Ae Aw Al Aj Ai m):=by
 have sc:=Uk;bv_omega
 ·obtain⟨_,_,_,rfl,_⟩:=h
  rfl
 obtain⟨x,l,z,rfl,⟨dx,fs,cv,cl,xs,e,a1,a2,a3,a4,a5,a6,_⟩,hm,hl,q⟩:=h;refine⟨_,(Ao (Be (Gh Mholds (hr.mono (by omega)) (Cq (pv 0) rfl) (Aa (pv 1) Af)))),?_⟩;obtain⟨cp,dc,fc,rfl,hc,n1,_⟩:=a6.obj;exact (vE rfl ⟨x.p,Ai,dx,fs,_,rfl,e,L.cl_Cover,L.na_Cover_condition,a2,cp,_,dc,fc,rfl,hc,A8.fam _ x.t,n1,_,rfl,cp,x.t,l,z.ls,rfl,a6,rfl,hm,LU hl,q⟩)
theorem Uo:Bb ["cover", "counts", "loss"] ["cover", "counts", "loss"] (As Iw):=by injections
theorem Ul {f:Addr} {fd:zCC} (F:Fun K "numbers_of" "numbers_of" Iw f fd) (T:Txt K mg) (L:Kl K mg Ac Ah Ag Am Au Bc Ba At Ae Aw Al Aj Bg Ai Bd Aq) (Mkey:Px P w K mg base 2 (Fam Ae Aw Al Aj) "key" ["self", "loss"] (DT Ae Aw Al Aj)) (Mhave:Iv P w K mg base 1 Aq "have" ["self", "name", "k", "key"] (Yt Aq)) :
  FnOk P w K mg base Cu 3 f fd ["cover", "counts", "loss"] (G4 (A8.mk Ac Ah Ag Am Au Bc Ba At) Ae Aw Al Aj Ai Aq):=by
 have sc:=Uo;bv_omega
 ·obtain⟨_,_,_,_,_,_,rfl,_⟩:=h
  rfl
 obtain⟨x,cp,kp,kvs,l,z,rfl,cx,ct,iv,hl,q⟩:=h;refine⟨_,(Ao (Be (Dj (NC:=["k", "clause", "counts", "cover", "loss"]) (own:=["k", "clause"]) (cs:=["counts", "cover", "loss"]) (ix:=[1,0,2]) rfl (CompScope.of rfl) rfl ⟨⟨rfl,.inl rfl,rfl⟩,⟨⟨rfl,.inl rfl,rfl⟩,⟨⟨rfl,.inl rfl,rfl⟩,trivial⟩⟩⟩ (Ms rfl T.n_enumerate (Aa (Cq (pv 0) rfl) Af)) (fun _ _ _=>(V5 (K:=K) (n:=2) rfl rfl (Bj (Az (i:=0) (show (["k", "clause", "counts", "cover", "loss"]:List Str).Nodup from by ac_nf) rfl (Or.inl rfl)) (Bj (Az (i:=1) (show (["k", "clause", "counts", "cover", "loss"]:List Str).Nodup from by ac_nf) rfl (Or.inl rfl)) Da)))) (fun _ _ _=>Dd) (fun _ _ _=>(Ed Mhave (hr.mono (by decide)) (pv 2) (Aa (Kn (K:=K) (pv 3) rfl) (Aa (pv 0) (Aa (Gh Mkey (hr.mono (by decide)) (pv 1) (Aa (pv 4) Af)) Af)))))))),?_⟩;obtain⟨dx,fs,cv,cl,xs,e,a1,a2,a3,a4,a5,a6,hcl,cc,l8⟩:=id cx;have lx:=cc.len;refine (vE rfl ⟨x.p,Ai,dx,fs,_,rfl,e,L.cl_Cover,L.na_Cover_clauses,a3,cl,rfl,⟨_,SqL.of hcl⟩,fun b nb=>?_⟩);refine Vz (K:=K) (a:=cl) (xs:=xs) (fun i ys H2=>ys=(Jz kvs x.nm z x.cs i).map V.int/\H2 b=some (.lst ys)/\Same H H2) ⟨rfl,Ab,An nb _⟩
  (fun i ys H2 _ ⟨e,x1,x2⟩=>⟨x1,by rw[e,zAb]; unfold Jz; rw[zAb,zAL]; exact zAn _,SqL.of (x2 _ _ hcl)⟩) (by rw[zCA]; lia) (fun i v ys H2 t hi ⟨e2,x1,x2⟩ ht=>?_) (fun ys H2 ⟨e2,x1,x2⟩=>?_)
 ·obtain⟨o,c,hc,rfl,ho⟩:=cc.get hi
  have s3:=x2.trans (An ht (.tup [.int i,.ref o]));have ho3:=ho.same s3;obtain⟨od,ho4⟩:=id ho3;have ct3:=ct.same s3;obtain⟨⟨dc,fc,hcp,b1,b2,b3⟩,_⟩:=id ct3;obtain⟨n,en⟩:=iv.have x.nm (i:Int) (Tk c.way z);refine (vE rfl ⟨cp,dc,fc,rfl,hcp,b2,_,rfl,x.p,Ai,dx,fs,_,rfl,s3 _ _ e,L.cl_Cover,L.na_Cover_name,a1,_,rfl,vE rfl ⟨o,_,od,_,rfl,ho4,L4 _ _ _ _ c,JD c,_,rfl,o,c,l,z.ev,z.th,z.ca,z.n,z.d,z.ct,rfl,ho3,rfl,s3 _ _ hl,cp,kp,kvs,x.nm,(i:Int),Tk c.way z,by rw[JW]; rfl,ct3,fun H4 s4=>?_⟩⟩);rw[en];refine⟨s4 _ _ (An ht _ _ _ x1),rfl,?_,Ab,fun y ob w=>?_⟩
  ·have em:Jz kvs x.nm z x.cs (i+1)=Jz kvs x.nm z x.cs i++[n]:=by
    unfold Jz;rw[zBN,zAr];simp [hc,en,IE]
   rw[em,zAr,e2];rfl
  ·rw[Ar (Ap w nb)]
   exact s4 _ _ (s3 y ob w)
 rw[lx] at e2;subst e2;exact q b H2 x2 nb x1
theorem B6:Bb ["book", "loss"] ["book", "loss"] (As La):=by injections
theorem E8 {f:Addr} {fd:zCC} (F:Fun K "asked_of" "asked_of" La f fd) (T:Txt K mg) (L:Kl K mg Ac Ah Ag Am Au Bc Ba At Ae Aw Al Aj Bg Ai Bd Aq) (Masks:Iv P w K mg base 5 Ai "asks" ["self", "loss"] (O5 (A8.mk Ac Ah Ag Am Au Bc Ba At) Ae Aw Al Aj Ai 4)) :
  FnOk P w K mg base Cu 6 f fd ["book", "loss"] (Yc (A8.mk Ac Ah Ag Am Au Bc Ba At) Ae Aw Al Aj Ai Bd 4):=by
 have sc:=B6;bv_omega
 ·obtain⟨_,_,_,_,rfl,_⟩:=h
  rfl
 obtain⟨b,l,bs,z,rfl,⟨dx,fs,ak,e,a1,hak,all⟩,hm,l60,hl,q⟩:=h;refine⟨_,(Ao (Be (Dj (NC:=["cover", "loss"]) (own:=["cover"]) (cs:=["loss"]) (ix:=[1]) rfl (CompScope.of rfl) rfl ⟨⟨rfl,.inl rfl,rfl⟩,trivial⟩ (Cb (Cq (pv 0) rfl)) (fun _ _ _=>(Az (i:=0) (show (["cover", "loss"]:List Str).Nodup from by ac_nf) rfl (Or.inl rfl))) (fun _ _ _=>(Mg (Cy (Ed Masks (hr.mono (by decide)) (pv 0) (Aa (pv 1) Af))))) (fun _ _ _=>(pv 0))))),?_⟩;have lm:(bs.map xV).length=bs.length:=zAb _;refine (vE rfl ⟨b,Bd,dx,fs,_,rfl,e,L.cl_Book,L.na_Book_asking,a1,ak,rfl,⟨_,SqL.of hak⟩,fun r nr=>?_⟩);refine Ck (K:=K) (a:=ak) (xs:=bs.map xV) (fun i ys H2=>ys=((bs.take i).filter fun x=>hT x.t z.ls).map xV/\H2 r=some (.lst ys)/\Same H H2) ⟨rfl,Ab,An nr _⟩
  (fun i ys H2 _ ⟨e2,h1,s2⟩=>⟨h1,by rw[e2,zAb]; exact zAG (zBg _ _) (by rw[zAx]; lia),SqL.of (s2 _ _ hak)⟩) (by rw[zCA]; lia) (fun i v ys H2 hi ⟨e2,h1,s2⟩=>?_) (fun ys H2 ⟨e2,h1,s2⟩=>?_)
 ·rw[zAw] at hi
  obtain⟨x,hx,rfl⟩:=zAW.mp hi;have mx:=zAF hx;have cx:=(all x mx).same s2;obtain⟨d2,f2,_,_,_,e3,_,_,_,_,n5,_⟩:=id cx;refine (vE rfl ⟨x.p,d2,f2,rfl,e3,n5.1,_,rfl,x,l,z,rfl,cx,hm x mx,s2 _ _ hl,_,rfl,?_⟩);have es:(bs.take (i+1)).filter (fun x=>hT x.t z.ls)=(bs.take i).filter (fun x=>hT x.t z.ls)++if hT x.t z.ls=true then [x] else []:=by
   rw[Bz hx,List.filter_append];by_cases c:hT x.t z.ls=true
   ·rw[if_pos c,zBi (by exact c),zBO]
   ·rw[if_neg c,zBj (by exact c),zBO]
  cases cw:hT x.t z.ls with
  | false=>
   refine Dy ⟨rfl,?_,h1,s2⟩;rw[es,e2,cw];simp
  | true=>
   refine Po (vE rfl ⟨h1,rfl,?_,Ab,fun b o w=>?_⟩)
   ·rw[es,e2,cw]
    simp
   ·rw[Ar (Ap w nr)]
    exact s2 b o w
 rw[lm,zAE] at e2;subst e2;exact q r H2 s2 nr h1
def FM (k:Int) (cs:List Cl) (ns:List Int) (W:Int×Int):Prop:=∃ lo hi:Int,Q2 lo (0::(Br k cs ns).map (·.1))/\V2 hi (k::(Br k cs ns).map (·.2))/\W=(lo,if hi>lo then hi else lo)
def Bx (cs:List Cl) (ns:List Int):Option (Int×Int):=Dv (Ce cs ns) 0 none
def P6 (κ:A8) (CC CO CL CM C:Addr):Sp:=fun vs H Q _=>∃ x ct u un ns,∃ k:Int,vs=[.ref x.p,.ref ct,.int k,.ref u]/\CvxAt κ CC CO CL CM C H x/\H ct=some (.lst (List.map V.int ns))/\ns.length=x.cs.length/\LP H u un/\un.length<=1000 /\
 ∀ r W H',Same H H'->H r=none->FM k x.cs ns W->LP H' r (CRT.payW (x.nm,W,(Bx x.cs ns).map (·.1)) un)->Q (.ref r) H'
theorem Wy:Bb ["cover", "numbers", "cents", "unpaid", "window", "rest", "most"] ["cover", "numbers", "cents", "unpaid"] (As Ju):=by injections
theorem Xw {f:Addr} {fd:zCC} (F:Fun K "paid_runs" "paid_runs" Ju f fd) (T:Txt K mg) (Mwindow:Iv P w K mg base 4 Ai "window" ["self", "counts", "cents"] (BM Ae Aw Al Aj Ai)) (Mrest:Iv P w K mg base 2 Ai "rest" ["self", "counts"] (Yo Ae Aw Al Aj Ai))
  (Ccut_within:Cn P w K mg base 1 "cut_within" ["runs", "lo", "hi"] W6) (Clowest_of:Cn P w K mg base 1 "lowest_of" ["runs", "n"] Qs):FnOk P w K mg base Cu 5 f fd ["cover", "numbers", "cents", "unpaid"] (P6 (A8.mk Ac Ah Ag Am Au Bc Ba At) Ae Aw Al Aj Ai):=by
 have sc:=Wy;bv_omega
 ·obtain⟨_,_,_,_,_,_,rfl,_⟩:=h
  rfl
 obtain⟨x,ct,u,un,ns,k,rfl,cx,hct,ln,lu,l9,q⟩:=h;refine⟨_,(Ad (Bf (i:=4) sc.nd rfl (Or.inl rfl) (Ed Mwindow (hr.mono (by decide)) (pv 0) (Aa (pv 1) (Aa (pv 2) Af))))
   (Ad (Bf (i:=5) sc.nd rfl (Or.inl rfl) (Ed Mrest (hr.mono (by decide)) (pv 0) (Aa (pv 1) Af)))
   (Ad (Bf (i:=6) sc.nd rfl (Or.inl rfl) (Nc (Bk Ti (pv 5) Gu (Bm _)) Gu (Bh Bp (pv 5) Ak (fun _ _=>rfl))))
   (Ao (Be (Ax Clowest_of (hr.mono (by decide)) rfl (Aa (Ax Ccut_within (hr.mono (by decide)) rfl (Aa (pv 3) (Aa (Bh Bp (pv 4) Ak (fun _ _=>rfl)) (Aa (Bh Bp (pv 4) Ak (fun _ _=>rfl)) Af)))) (Aa (pv 6) Af)))))))),?_⟩
 obtain⟨dx,fs,cv,cl,xs,e,a1,a2,a3,a4,n5,a6,hcl,cc,l8⟩:=id cx;have cva:CvAt Ai H x.p cl:=⟨dx,fs,e,a3,n5.2⟩;refine (vE rfl ⟨x.p,dx,fs,rfl,e,n5.2.2.1,_,rfl,vE rfl ⟨x.p,cl,ct,x.cs,ns,k,rfl,⟨cva,⟨xs,hcl,cc⟩,hct,ln,l8⟩,fun t lo hi H1 s1 ht mx mn=>?_⟩⟩);refine Dp [some (.ref x.p),some (.ref ct),some (.int k),some (.ref u),some (.ref t),none,none] rfl ?_;refine (vE rfl ⟨x.p,dx,fs,rfl,s1 _ _ e,n5.2.2.2.2,_,rfl,x.p,cl,ct,xs,x.cs,ns,rfl,cva.same s1,s1 _ _ hcl,cc.mono (Mp s1),s1 _ _ hct,ln,fun v H2 s2 rv=>?_⟩);refine Dp [some (.ref x.p),some (.ref ct),some (.int k),some (.ref u),some (.ref t),some v,none] rfl ?_;have ht2:=s2 _ _ ht;have S2:=s1.trans s2;have lu2:LP H2 u un:=LP.same S2 lu;have wa:FM k x.cs ns (lo,if hi>lo then hi else lo):=⟨lo,hi,mx,mn,rfl⟩;have lc:=CR.cutW_len un lo (if hi>lo then hi else lo);cases ro:Dv (Ce x.cs ns) 0 none with
 | none=>
  rw[ro] at rv;have rv':v = .non:=rv;subst rv';refine (vE rfl ⟨rfl,vE rfl (dT rfl ?_)⟩);refine Dp [some (.ref x.p),some (.ref ct),some (.int k),some (.ref u),some (.ref t),some .non,some .non] rfl ?_;refine (vE rfl (vE rfl (vI rfl rfl (SqT.of ht2) rfl (vE rfl (vI rfl rfl (SqT.of ht2) rfl ⟨u,un,lo,_,rfl,lu2,l9,fun r1 H3 s3 nr1 lp=>(vE rfl (.inr ⟨r1,_,rfl,lp,fun r H4 s4 nr lp4=>?_⟩))⟩)))));refine q r _ H4 (S2.trans (s3.trans s4)) (S2.free (s3.free nr)) wa ?_;unfold Bx;rw[ro];exact lp4
 | some nj=>
  obtain⟨n,j⟩:=nj;rw[ro] at rv;obtain⟨t2,rfl,ht3⟩:=rv;refine (vE rfl ⟨rfl,vE rfl (dF (fun y=>by cases y) (vE rfl (vI rfl rfl (SqT.of ht3) rfl ?_)))⟩);refine Dp [some (.ref x.p),some (.ref ct),some (.int k),some (.ref u),some (.ref t),some (.ref t2),some (.int n)] rfl ?_;refine (vE rfl (vE rfl (vI rfl rfl (SqT.of ht2) rfl (vE rfl (vI rfl rfl (SqT.of ht2) rfl ⟨u,un,lo,_,rfl,lu2,l9,fun r1 H3 s3 nr1 lp=>(vE rfl (.inl ⟨r1,_,n,rfl,lp,by omega,fun r H4 s4 nr lp4=>?_⟩))⟩)))));refine q r _ H4 (S2.trans (s3.trans s4)) (S2.free (s3.free nr)) wa ?_;unfold Bx;rw[ro];exact lp4
abbrev Zz:=CRT.Sx Str
def DK (s:Zz):List V:=[.int s.1,.int s.2.1,.str s.2.2.1,.int s.2.2.2]
def Sts (H:Hp):List V->List Zz->Prop
 | [],[]=>True
 | x::xs,p::ps=>(∃ t,x = .ref t/\H t=some (.tup (DK p)))/\Sts H xs ps
 | _,_=>False
theorem Sts.len {H:Hp}:∀ {xs:List V} {ps:List Zz},Sts H xs ps->xs.length=ps.length
 | [],[],_=>rfl
 | [],_::_,h=>h.elim
 | _::_,[],h=>h.elim
 | x::xs,p::ps,h=>by rw[zAf,zAf,Sts.len h.2]
theorem Sts.mono {H H':Hp} (s:HL H H'):∀ {xs:List V} {ps:List Zz},Sts H xs ps->Sts H' xs ps
 | [],[],_=>trivial
 | [],_::_,h=>h.elim
 | _::_,[],h=>h.elim
 | x::xs,p::ps,⟨⟨t,e,h⟩,r⟩=>⟨⟨t,e,s _ _ h⟩,Sts.mono s r⟩
theorem Sts.app {H:Hp}:∀ {xs:List V} {ps:List Zz} {ys:List V} {qs:List Zz},Sts H xs ps->Sts H ys qs->Sts H (xs++ys) (ps++qs)
 | [],[],_,_,_,h=>h
 | [],_::_,_,_,r,_=>r.elim
 | _::_,[],_,_,r,_=>r.elim
 | x::xs,p::ps,_,_,⟨z,r⟩,h=>⟨z,Sts.app r h⟩
theorem Sts.one {H:Hp} {t:Addr} {p:Zz} (h:H t=some (.tup (DK p))):Sts H [.ref t] [p]:=⟨⟨t,rfl,h⟩,trivial⟩
theorem Sts.get {H:Hp}:∀ {xs:List V} {ps:List Zz} {i:Nat} {x:V},Sts H xs ps->xs[i]?=some x->∃ t p,ps[i]?=some p/\x = .ref t/\H t=some (.tup (DK p))
 | [],[],_,_,_,e=>by simp at e
 | [],_::_,_,_,h,_=>h.elim
 | _::_,[],_,_,h,_=>h.elim
 | x::xs,p::ps,0,y,⟨⟨t,e,h⟩,r⟩,q=>by
  simp at q;subst q;exact⟨t,p,rfl,e,h⟩
 | x::xs,p::ps,i+1,y,⟨_,r⟩,q=>by
  obtain⟨t,p',h1,h2⟩:=Sts.get (i:=i) r (by simpa using q);exact⟨t,p',by simpa using h1,h2⟩
theorem Zc {nm:Str} {k:Int} {ps:List CR.Rn} {i:Nat} {p:CR.Rn} (h:ps[i]?=some p):CRT.tag nm k (ps.take (i+1))=CRT.tag nm k (ps.take i)++[(p.1,p.2,nm,k)]:=by
 unfold CRT.tag;rw[Bz h,zAr];rfl
theorem Ws {b n k:Int} (k0:0<=k):0<=N5 b n k/\N5 b n k<=k:=by
 unfold N5 CR.minI CR.maxI
 repeat' split
 all_goals lia
theorem GA {k:Int} (k0:0<=k) (c:Cl) (n:Int):(0<=NM c n k/\NM c n k<=k)/\0<=NH c n k/\NH c n k<=k:=by
 cases c with
 | own y d=>exact⟨Ws k0,k0,Int.le_refl _⟩
 | lay y a b=>exact⟨Ws k0,Ws k0⟩
 | lim y m=>exact⟨⟨Int.le_refl _,k0⟩,k0,Int.le_refl _⟩
 | any y=>exact⟨⟨Int.le_refl _,k0⟩,k0,Int.le_refl _⟩
theorem A4 {k:Int} (k0:0<=k):∀ (cs:List Cl) (ns:List Int),∀ p∈Br k cs ns,(0<=p.1/\p.1<=k)/\0<=p.2/\p.2<=k
 | [],_,p,h=>by unfold Br at h; simp at h
 | _::_,[],p,h=>by unfold Br at h; simp at h
 | c::cs,n::ns,p,h=>by
  unfold Br at h;rw[zBF] at h;rcases zAo.mp h with z | z
  ·rw[z]; exact GA k0 c n
  ·exact A4 k0 cs ns p z
theorem CJ {k:Int} (k0:0<=k) {sp:List (Int×Int)} (bd:∀ p∈sp,(0<=p.1/\p.1<=k)/\0<=p.2/\p.2<=k) {ms:List Int} (up:ms.Pairwise (· < ·)) (mem:∀ y,y∈ms↔OA sp k y):CRP.Ch (CRP.fw sp) 0 none (CRP.foldP sp ms (ms.length-1)) k:=by
 have at':∀ y∈ms,∃ j,j<ms.length/\ms.getD j 0=y:=fun y hy=>by
  obtain⟨j,hj,e⟩:=zAU hy;exact⟨j,hj,by rw[zAs,zAd hj]; exact e⟩
 have inn:∀ j,j<ms.length->0<=ms.getD j 0/\ms.getD j 0<=k:=fun j hj=>by
  have m:ms.getD j 0∈ms:=by
   rw[zAs,zAd hj];exact zAZ hj
  rcases (mem _).mp m with z | z | ⟨p,hp,z | z⟩
  ·rw[z]; exact⟨Int.le_refl _,k0⟩
  ·rw[z]; exact⟨k0,Int.le_refl _⟩
  ·rw[z]; exact (bd p hp).1
  ·rw[z]; exact (bd p hp).2
 obtain⟨j0,h0,e0⟩:=at' 0 ((mem 0).mpr (.inl rfl));obtain⟨jk,hk,ek⟩:=at' k ((mem k).mpr (.inr (.inl rfl)));have z0:ms.getD 0 0=0:=by
  rcases Nat.eq_zero_or_pos j0 with z | z
  ·rw[z] at e0; exact e0
  ·have:=CRP.get_lt up z h0
   have:=inn 0 (by lia)
   lia
 have zk:ms.getD (ms.length-1) 0=k:=by
  by_cases z:jk=ms.length-1
  ·rw[<- z]; exact ek
  ·have:=CRP.get_lt up (show jk<ms.length-1 by lia) (by lia)
   have:=inn (ms.length-1) (by lia)
   lia
 have c:=CRP.fold_ch up (sp:=sp) (fun p hp=>⟨(mem _).mpr (.inr (.inr ⟨p,hp,.inl rfl⟩)),(mem _).mpr (.inr (.inr ⟨p,hp,.inr rfl⟩))⟩) (ms.length-1) (by lia) z0;rw[zk] at c;exact c
def Ua (ro:Option (Int×Int)) (k:Int):Int:=match ro with
 | none=>k
 | some (_,j)=>if k = -1 then j else k
theorem O9 {nm:Str} {g:Int->Int} {un:List CR.Rn} {ps:List CRP.Tr3} {i:Nat} {p:CRP.Tr3} (h:ps[i]?=some p):CRT.borneS nm g (ps.take (i+1)) un=CRT.borneS nm g (ps.take i) un++CRT.tag nm (g p.2.2) (CR.cutW un p.1 p.2.1):=by
 unfold CRT.borneS;rw[Bz h,zAr,List.flatten_append];simp
theorem LH {te:TE} {i:Nat} {ts:TS} {D:Nj} {σ:St} {H:Hp} (v:V) (h:∀ Q':VK,Q' v H->te σ H Q') (k:ts D (σ.set i (some v)) H):JZ (HP te (Ey i)) ts D σ H:=h _ k
def Yw (κ:A8) (CC CO CL CM C:Addr):Sp:=fun vs H Q _=>∃ x ct u un ns,∃ k:Int,vs=[.ref x.p,.ref ct,.int k,.ref u]/\CvxAt κ CC CO CL CM C H x/\H ct=some (.lst (List.map V.int ns))/\ns.length=x.cs.length/\LP H u un/\un.length<=60/\0<=k /\
 ∀ r ys parts H',Same H H'->H r=none->H' r=some (.lst ys)->CRP.Ch (CRP.fw (Br k x.cs ns)) 0 none parts k->parts.length<=20->Sts H' ys (CRT.borneS x.nm (Ua (Bx x.cs ns)) parts un)->ys.length<=1200->Q (.ref r) H'
theorem Pp:Bb ["cover", "numbers", "cents", "unpaid", "rest", "strips", "lo", "hi", "k", "clause"] ["cover", "numbers", "cents", "unpaid"] (As Gd):=by injections
theorem Pt {f:Addr} {fd:zCC} (F:Fun K "borne_strips" "borne_strips" Gd f fd) (T:Txt K mg) (L:Kl K mg Ac Ah Ag Am Au Bc Ba At Ae Aw Al Aj Bg Ai Bd Aq) (Mparts:Iv P w K mg base 4 Ai "parts" ["self", "counts", "cents"] (FC Ae Aw Al Aj Ai)) (Mrest:Iv P w K mg base 2 Ai "rest" ["self", "counts"] (Yo Ae Aw Al Aj Ai))
  (Ccut_within:Cn P w K mg base 1 "cut_within" ["runs", "lo", "hi"] W6):FnOk P w K mg base Cu 5 f fd ["cover", "numbers", "cents", "unpaid"] (Yw (A8.mk Ac Ah Ag Am Au Bc Ba At) Ae Aw Al Aj Ai):=by
 have sc:=Pp;bv_omega
 ·obtain⟨_,_,_,_,_,_,rfl,_⟩:=h
  rfl
 obtain⟨x,ct,u,un,ns,k,rfl,cx,hct,ln,lu,l60,k0,q⟩:=h;refine⟨_,(Ad (Bf (i:=4) sc.nd rfl (Or.inl rfl) (Ed Mrest (hr.mono (by decide)) (pv 0) (Aa (pv 1) Af)))
   (Ad (Bf (i:=5) sc.nd rfl (Or.inl rfl) (Cg Af))
   (Ad (Cm PassesOwn.never rfl (Cb (Ed Mparts (hr.mono (by decide)) (pv 0) (Aa (pv 1) (Aa (pv 2) Af)))) (Dw (n:=3) rfl (Bj (Az (i:=6) sc.nd rfl (Or.inl rfl)) (Bj (Az (i:=7) sc.nd rfl (Or.inl rfl)) (Bj (Az (i:=8) sc.nd rfl (Or.inl rfl)) Da))))
    (Ad (Bf (i:=9) sc.nd rfl (Or.inr rfl) (Nc (PW.pt (Og (Bk Db (pv 8) (E4 Th Ak) (Bm _)) (Nl (Bk W7 (pv 4) Gu (Bm _))))) (Bh Bp (pv 4) Ak (fun _ _=>rfl)) (pv 8)))
   (Ao (Cp (Gi PySem.F.plainAttrs_list PySem.F.slot_list_extend PySem.F.type_list_extend Kk (pv 5) (Aa (Dj (NC:=["run", "clause", "cover"]) (own:=["run"]) (cs:=["clause", "cover"]) (ix:=[9,0]) rfl (CompScope.of rfl) rfl ⟨⟨rfl,.inl rfl,rfl⟩,⟨⟨rfl,.inl rfl,rfl⟩,trivial⟩⟩ (Cb (Ax Ccut_within (hr.mono (by decide)) rfl (Aa (pv 3) (Aa (pv 6) (Aa (pv 7) Af))))) (fun _ _ _=>(Az (i:=0) (show (["run", "clause", "cover"]:List Str).Nodup from by ac_nf) rfl (Or.inl rfl))) (fun _ _ _=>Dd) (fun _ _ _=>(Cc (Aa (Bh (Ee (K:=K) rfl) (pv 0) Ak (fun _ _=>rfl)) (Aa (Bh (Ee (K:=K) rfl) (pv 0) Ak (fun _ _=>rfl)) (Aa (Kn (K:=K) (pv 2) rfl) (Aa (pv 1) Af))))))) Af))))))
   (Ao (Be (pv 5)))))),?_⟩
 obtain⟨dx,fs,cv,cl,xs,e,a1,a2,a3,a4,n5,a6,hcl,cc,l8⟩:=id cx;have cva:CvAt Ai H x.p cl:=⟨dx,fs,e,a3,n5.2⟩;refine (vE rfl ⟨x.p,dx,fs,rfl,e,n5.2.2.2.2,_,rfl,x.p,cl,ct,xs,x.cs,ns,rfl,cva,hcl,cc,hct,ln,fun v H1 s1 rv=>?_⟩);refine Dp [some (.ref x.p),some (.ref ct),some (.int k),some (.ref u),some v,none,none,none,none,none] rfl ?_;refine⟨zAB _,fun st nst=>?_⟩;have s2:=s1.trans (An nst (.lst []));have rv2:=rv.same (An nst (.lst []));have hst:upd H1 st (.lst []) st=some (.lst []):=Ab;have fst:=s1.free nst;generalize upd H1 st (.lst [])=H2 at s2 rv2 hst;refine Dp [some (.ref x.p),some (.ref ct),some (.int k),some (.ref u),some v,some (.ref st),none,none,none,none] rfl ?_;refine (vE rfl ⟨x.p,dx,fs,rfl,s2 _ _ e,n5.2.2.2.1,_,rfl,vE rfl ⟨x.p,cl,ct,x.cs,ns,k,rfl,⟨cva.same s2,⟨xs,s2 _ _ hcl,cc.mono (Mp s2)⟩,s2 _ _ hct,ln,l8⟩,fun pl pxs ms H3 s3 npl hpl up mem l20 tr=>?_⟩⟩);have ch:=CJ k0 (A4 k0 x.cs ns) up mem;have lpt:(CRP.foldP (Br k x.cs ns) ms (ms.length-1)).length<=20:=zAG (CRP.foldP_len _ _ _) (by lia);generalize CRP.foldP (Br k x.cs ns) ms (ms.length-1)=parts at tr ch lpt;have lpx:=tr.len;have S3:=s2.trans s3;have rv3:=rv2.same s3;have hst3:=s3 _ _ hst;have npst:pl≠st:=(Ap hst npl).symm;refine⟨pl,rfl,⟨_,SqL.of hpl⟩,?_⟩;refine Dg (K:=K) (a:=pl) (xs:=pxs) (fun i σ H4=>(∃ o6 o7 o8 o9,σ=[some (.ref x.p),some (.ref ct),some (.int k),some (.ref u),some v,some (.ref st),o6,o7,o8,o9])/\(∃ ys,H4 st=some (.lst ys)/\Sts H4 ys (CRT.borneS x.nm (Ua (Bx x.cs ns)) (parts.take i) un)/\ys.length<=60*i)/\(∀ b o,H3 b=some o->b≠st->H4 b=some o))
  ⟨⟨none,none,none,none,rfl⟩,⟨[],hst3,trivial,zAn _⟩,fun b o z _=>z⟩ (fun i σ H4 _ hh=>SqL.of (hh.2.2 _ _ hpl npst)) ?_ ?_
 ·rintro i y σ H4 hi ⟨⟨o6,o7,o8,o9,rfl⟩,⟨ys,h4,sy,ly⟩,kp⟩
  obtain⟨t,p,hp,rfl,ht⟩:=tr.get hi;have il:i<parts.length:=(zAi.mp hp).1;have tst:∀ {b:Addr} {zs:List V},H3 b=some (.tup zs)->H4 b=some (.tup zs):=fun z=>kp _ _ z (He z hst3 (by intro y; cases y));refine⟨t,_,rfl,SqT.of (tst ht),rfl,vC rfl (vC rfl (vC rfl (⟨rfl,?_⟩)))⟩;refine LH (.int (Ua (Bx x.cs ns) p.2.2)) (fun Q' kq=>?_) ?_
  ·by_cases c:p.2.2 = -1
   ·refine (vE rfl (vE rfl ⟨rfl,vE rfl (dT (by rw[c]) ?_)⟩))
    cases ro:Dv (Ce x.cs ns) 0 none with
    | none=>
     rw[ro] at rv3;have rv':v = .non:=rv3;subst rv';refine (vE rfl ⟨rfl,vE rfl (nF rfl (vE rfl ?_))⟩);unfold Bx at kq;rw[ro] at kq;exact kq
    | some nj=>
     obtain⟨n,j⟩:=nj;rw[ro] at rv3;obtain⟨t2,rfl,ht3⟩:=rv3;refine (vE rfl ⟨rfl,vE rfl (nT (fun y=>by cases y) (vE rfl (vI rfl rfl (SqT.of (tst ht3)) rfl ?_)))⟩);unfold Bx Ua at kq;rw[ro] at kq
     dsimp only at kq
     rw[if_pos c] at kq;exact kq
   ·refine (vE rfl (vE rfl ⟨rfl,vE rfl (dF (fun y=>c (V.int.inj y)) (vE rfl ?_))⟩))
    have eg:Ua (Bx x.cs ns) p.2.2=p.2.2:=by
     unfold Ua
     split
     ·rfl
     ·rw[if_neg c]
    rw[eg] at kq;exact kq
  refine FX [some (.ref x.p),some (.ref ct),some (.int k),some (.ref u),some v,some (.ref st),some (.int p.1),some (.int p.2.1),some (.int p.2.2),some (.int (Ua (Bx x.cs ns) p.2.2))] rfl ?_;generalize Ua (Bx x.cs ns)=g at sy ⊢;obtain⟨us,hu0,pu0⟩:=id lu;have lu4:LP H4 u un:=⟨us,kp _ _ (S3 _ _ hu0) (Ap hu0 fst),(pu0.mono (Bq S3)).mono fun b ws y=>tst y⟩;have e4:=kp _ _ (S3 _ _ e) (Ap e fst);refine (vE rfl ⟨.inl ⟨rfl,_,SqL.of h4⟩,vE rfl (vE rfl (vE rfl ⟨u,un,p.1,p.2.1,rfl,lu4,by lia,fun r1 H5 s5 nr1 lp=>?_⟩))⟩);obtain⟨rs,hr1,pr⟩:=id lp;have lr:=pr.len;have lc:=CR.cutW_len un p.1 p.2.1;refine⟨r1,rfl,⟨_,SqL.of hr1⟩,fun c1 nc1=>?_⟩;refine Ck (K:=K) (a:=r1) (xs:=rs) (fun j zs H6=>Sts H6 zs (CRT.tag x.nm (g p.2.2) ((CR.cutW un p.1 p.2.1).take j))/\H6 c1=some (.lst zs)/\Same H5 H6) ⟨trivial,Ab,An nc1 _⟩
   (fun j zs H6 _ ⟨e6,x1,x2⟩=>⟨x1,by rw[e6.len]; unfold CRT.tag; rw[zAb,zAx]; lia,SqL.of (x2 _ _ hr1)⟩) (by rw[zCA]; lia) (fun j w zs H6 hj ⟨e6,x1,x2⟩=>?_) (fun zs H6 ⟨e6,x1,x2⟩=>?_)
  ·obtain⟨t',p',hp',rfl,ht'⟩:=pr.get hj
   refine (vE rfl (vI rfl rfl (SqT.of (x2 _ _ ht')) rfl (vE rfl (vI rfl rfl (SqT.of (x2 _ _ ht')) rfl (vE rfl ⟨x.p,Ai,dx,fs,_,rfl,x2 _ _ (s5 _ _ e4),L.cl_Cover,L.na_Cover_name,a1,_,rfl,Ci (by show 4<=1000; decide),fun v1 nv1=>?_⟩)))));have s7:=An nv1 (.tup [.int p'.1,.int p'.2,.str x.nm,.int (g p.2.2)]);refine⟨s7 _ _ x1,rfl,?_,Ab,fun b o z=>?_⟩
   ·rw[Zc hp']
    exact ((e6.mono (Bq s7)).app (Sts.one (p:=(p'.1,p'.2,x.nm,g p.2.2)) Ab)).mono (Df (s7 _ _ x1) _)
   ·rw[Ar (Ap z nc1)]
    exact s7 _ _ (x2 b o z)
  rw[lr,zAE] at e6;have s6:=s5.trans x2;have h6:=s6 _ _ h4;have lz:=e6.len;have lt:(CRT.tag x.nm (g p.2.2) (CR.cutW un p.1 p.2.1)).length=(CR.cutW un p.1 p.2.1).length:=by unfold CRT.tag; rw[zAb]
  refine⟨st,c1,ys,zs,rfl,rfl,h6,x1,by rw[zCA]; lia,?_⟩;refine⟨⟨_,_,_,_,rfl⟩,⟨_,Ab,?_,by rw[zAm]; lia⟩,fun b o z nb=>?_⟩
  ·rw[O9 hp]
   exact ((sy.mono (Bq s6)).app e6).mono (Df h6 _)
  ·rw[Ar nb]
   exact s6 _ _ (kp b o z nb)
 ·rintro σ H4 ⟨⟨o6,o7,o8,o9,rfl⟩,⟨ys,h4,sy,ly⟩,kp⟩
  rw[lpx,zAE] at sy;refine (vE rfl (q st ys parts H4 (fun b o z=>kp b o (S3 _ _ z) (Ap z fst)) fst h4 ch lpt sy (by lia)))
end
theorem Mt:∀ {rs:List (Option Int)} {k:Int} {o:Option (Int×Int)} {n j:Int},Dv rs k o=some (n,j)->o=some (n,j)\/∃ i:Nat,rs[i]?=some (some n)/\j=k+i
 | [],k,o,n,j,h=>.inl h
 | none::r,k,o,n,j,h=>by
  unfold Dv at h;rcases Mt h with z | ⟨i,z1,z2⟩
  ·exact .inl z
  ·exact .inr ⟨i+1,by simpa using z1,by lia⟩
 | some m::r,k,none,n,j,h=>by
  unfold Dv at h;rcases Mt h with z | ⟨i,z1,z2⟩
  ·cases z
   exact .inr ⟨0,rfl,by simp⟩
  ·exact .inr ⟨i+1,by simpa using z1,by lia⟩
 | some m::r,k,some (m',j'),n,j,h=>by
  unfold Dv at h;rcases Mt h with z | ⟨i,z1,z2⟩
  ·split at z
   ·cases z
    exact .inr ⟨0,rfl,by simp⟩
   ·exact .inl z
  ·exact .inr ⟨i+1,by simpa using z1,by lia⟩
theorem Vn:∀ {cs:List Cl} {ns:List Int} {i:Nat} {n:Int} (k:Int),(Ce cs ns)[i]?=some (some n)->(Br k cs ns)[i]?=some (0,k)
 | [],_,i,n,k,h=>by unfold Ce at h; simp at h
 | _::_,[],i,n,k,h=>by unfold Ce at h; simp at h
 | c::cs,m::ns,0,n,k,h=>by
  unfold Ce at h;unfold Br;rw[zBF] at h ⊢;simp at h;cases c with
  | lim y a=>rfl
  | own y d=>cases h
  | lay y a b=>cases h
  | any y=>cases h
 | c::cs,m::ns,i+1,n,k,h=>by
  unfold Ce at h;unfold Br;rw[zBF] at h ⊢;simp only [List.getElem?_cons_succ] at h ⊢;exact Vn (cs:=cs) (ns:=ns) k h
theorem Yj:∀ {sp:List (Int×Int)} {k c:Int},CRP.fwFrom sp k c = -1\/∃ i:Nat,∃ q,sp[i]?=some q/\CRP.fwFrom sp k c=k+i/\(c<q.1\/q.2<=c)
 | [],k,c=>.inl rfl
 | (a,b)::r,k,c=>by
  unfold CRP.fwFrom;by_cases z:c<a\/b<=c
  ·rw[if_pos z]
   exact .inr ⟨0,(a,b),rfl,by simp,z⟩
  ·rw[if_neg z]
   rcases Yj (sp:=r) (k:=k+1) (c:=c) with y | ⟨i,q,y1,y2,y3⟩
   ·exact .inl y
   ·exact .inr ⟨i+1,q,by simpa using y1,by rw[y2]; lia,y3⟩
theorem IF:∀ {sp:List (Int×Int)} {k c:Int},0<=k->CRP.fwFrom sp k c = -1->∀ q∈sp,q.1<=c/\c<q.2
 | [],_,_,_,_,q,h=>nomatch h
 | (a,b)::r,k,c,k0,h,q,hq=>by
  unfold CRP.fwFrom at h;by_cases z:c<a\/b<=c
  ·rw[if_pos z] at h
   lia
  ·rw[if_neg z] at h
   rcases zAo.mp hq with y | y
   ·rw[y]
    exact⟨by show a<=c; lia,by show c<b; lia⟩
   ·exact IF (by lia) h q y
theorem G6 {sp:List (Int×Int)} {k:Int} {parts:List CRP.Tr3} (ch:CRP.Ch (CRP.fw sp) 0 none parts k) {p:CRP.Tr3} (hp:p∈parts):∃ c,0<=c/\c<k/\CRP.fw sp c=p.2.2:=by
 obtain⟨i,hi,e⟩:=zAU hp;have g:=CRP.Ch.get (i:=i) (p:=p) ch (by rw[zAd hi,e]);exact⟨p.1,g.2.2.2.1,by have:=g.1; have:=g.2.2.2.2; omega,g.2.1 p.1 (Int.le_refl _) g.1⟩
theorem Qg {cs:List Cl} {ns:List Int} {k n j:Int} (ro:Bx cs ns=some (n,j)) {parts:List CRP.Tr3} (ch:CRP.Ch (CRP.fw (Br k cs ns)) 0 none parts k):0<=j/\∀ p∈parts,p.2.2≠j:=by
 unfold Bx at ro;rcases Mt ro with z | ⟨i,z1,z2⟩
 ·cases z
 refine⟨by lia,fun p hp e=>?_⟩;obtain⟨c,c0,ck,ec⟩:=G6 ch hp;have sp:=Vn k z1;unfold CRP.fw at ec;rcases Yj (sp:=Br k cs ns) (k:=0) (c:=c) with y | ⟨i',q,y1,y2,y3⟩
 ·lia
 ·have:i'=i:=by lia
  subst this;rw[sp] at y1;cases y1
  dsimp only at y3
  lia
theorem IW {cs:List Cl} {ns:List Int} {k:Int} {parts:List CRP.Tr3} (ch:CRP.Ch (CRP.fw (Br k cs ns)) 0 none parts k):∀ p∈parts,∀ q∈parts,Ua (Bx cs ns) p.2.2=Ua (Bx cs ns) q.2.2->p.2.2=q.2.2:=by
 intro p hp q hq e;cases ro:Bx cs ns with
 | none=>
  rw[ro] at e;exact e
 | some nj=>
  obtain⟨n,j⟩:=nj;obtain⟨j0,no⟩:=Qg ro ch;rw[ro] at e;have e':(if p.2.2 = -1 then j else p.2.2)=if q.2.2 = -1 then j else q.2.2:=e;have n1:=no p hp;have n2:=no q hq;by_cases c1:p.2.2 = -1
  ·by_cases c2:q.2.2 = -1
   ·lia
   ·rw[if_pos c1,if_neg c2] at e'
    exact absurd e'.symm n2
  ·by_cases c2:q.2.2 = -1
   ·rw[if_neg c1,if_pos c2] at e'
    exact absurd e' n1
   ·rw[if_neg c1,if_neg c2] at e'
    exact e'
def KY (kvs:Kp) (z:LF) (x:Cvx) (a:CRT.Av Str):Prop:=∃ W,FM z.ct x.cs (numsOf kvs z x) W/\a=(x.nm,W,(Bx x.cs (numsOf kvs z x)).map (·.1))
def Avs (kvs:Kp) (z:LF):List Cvx->List (CRT.Av Str)->Prop
 | [],[]=>True
 | x::xs,a::as=>KY kvs z x a/\Avs kvs z xs as
 | _,_=>False
theorem Avs.names {kvs:Kp} {z:LF}:∀ {xs:List Cvx} {as:List (CRT.Av Str)},Avs kvs z xs as->as.map (·.1)=xs.map (·.nm)
 | [],[],_=>rfl
 | [],_::_,h=>h.elim
 | _::_,[],h=>h.elim
 | x::xs,a::as,⟨⟨W,_,e⟩,r⟩=>by rw[zAN,zAN,Avs.names r,e]
theorem Avs.snoc {kvs:Kp} {z:LF}:∀ {xs:List Cvx} {as:List (CRT.Av Str)} {x:Cvx} {a:CRT.Av Str},Avs kvs z xs as->KY kvs z x a->Avs kvs z (xs++[x]) (as++[a])
 | [],[],_,_,_,h=>⟨h,trivial⟩
 | [],_::_,_,_,r,_=>r.elim
 | _::_,[],_,_,r,_=>r.elim
 | x::xs,a::as,_,_,⟨h,r⟩,g=>⟨h,Avs.snoc r g⟩
theorem Avs.len {kvs:Kp} {z:LF} {xs:List Cvx} {as:List (CRT.Av Str)} (h:Avs kvs z xs as):as.length=xs.length:=by
 have:=congrArg List.length h.names
 rwa [zAb,zAb] at this
theorem O3 {kvs:Kp} {z:LF} {x:Cvx} {xs:List Cvx} {as:List (CRT.Av Str)} (av:Avs kvs z (x::xs) as) (c0:0<z.ct) {parts:List CRP.Tr3} (ch:CRP.Ch (CRP.fw (Br z.ct x.cs (numsOf kvs z x))) 0 none parts z.ct) :
  ∀ p∈parts,Ua (Bx x.cs (numsOf kvs z x)) p.2.2 = -1->∀ n,p.1<=n->n<p.2.1->CR.inR (CRT.leftS as [(0,z.ct)]) n=false:=by
 intro p hp hg n n1 n2
 match as,av with
 | a::as,⟨⟨W,hw,ea⟩,r⟩=>
  obtain⟨i,hi,e⟩:=zAU hp;have g:=CRP.Ch.get (i:=i) (p:=p) ch (by rw[zAd hi,e]);have fn:=g.2.1 n n1 n2;have b0:=g.2.2.2.1;have b1:=g.2.2.2.2;cases ro:Bx x.cs (numsOf kvs z x) with
  | some nj=>
   obtain⟨m,j⟩:=nj;obtain⟨j0,no⟩:=Qg ro ch;rw[ro] at hg;have hg':(if p.2.2 = -1 then j else p.2.2) = -1:=hg
   split at hg'
   ·omega
   ·contradiction
  | none=>
   rw[ro] at hg ea;have k1:p.2.2 = -1:=hg;rw[k1] at fn;have inn:=IF (Int.le_refl 0) fn;obtain⟨lo,hi',mx,mn,eW⟩:=hw;have l1:lo<=n:=by
    rcases zAo.mp mx.1 with y | y
    ·omega
    ·obtain⟨q,hq,y'⟩:=zAy.mp y
     have:=inn q hq;have y'':q.1=lo:=y';omega
   have l2:n<hi':=by
    rcases zAo.mp mn.1 with y | y
    ·omega
    ·obtain⟨q,hq,y'⟩:=zAy.mp y
     have:=inn q hq;have y'':q.2=hi':=y';omega
   cases zl:CR.inR (CRT.leftS (a::as) [(0,z.ct)]) n with
   | false=>rfl
   | true=>
    exfalso;have f1:=CRT.frm_one c0;have zl':CR.inR (CRT.leftS as (CR.outW [(0,z.ct)] (CRT.payW a [(0,z.ct)]))) n=true:=zl;have:=CRT.leftS_sub (CR.outW_frm f1 (CRT.payW_frm f1)) zl';rw[CR.outW_in (CRT.payW_frm f1),zAp,zBd] at this;have pin:CR.inR (CRT.payW a [(0,z.ct)]) n=true:=by
     rw[ea];show CR.inR (CR.cutW [(0,z.ct)] W.1 W.2) n=true;rw[CR.cutW_in,zAp,zAp,decide_eq_true_eq,decide_eq_true_eq,eW];refine⟨CRT.in_one.mpr ⟨by omega,by omega⟩,l1,?_⟩;show n<if hi'>lo then hi' else lo
     split <;> omega
    rw[pin] at this;cases this.2
def Gw (kvs:Kp) (z:LF) (as:List Cvx) (S:List Zz):Prop:=match as with
 | []=>S=[((0:Int),z.ct,("" : Str),(0:Int))]
 | x::_=>∃ avs parts,Avs kvs z as avs/\CRP.Ch (CRP.fw (Br z.ct x.cs (numsOf kvs z x))) 0 none parts z.ct/\S.Perm (CRT.allS avs x.nm (Ua (Bx x.cs (numsOf kvs z x))) parts z.ct)/\S.Pairwise (fun s t=>s.1<t.1)
set_option tactic.hygienic true in
theorem Pf {kvs:Kp} {z:LF} {as:List Cvx} {S:List Zz} (h:Gw kvs z as S) (nd:(as.map (·.nm)).Nodup) (c0:0<z.ct):CRT.FormS 0 none S z.ct:=by
 unfold Gw at h
 split at h
 ·rw[h]
  exact⟨rfl,c0,(fun y=>by cases y),rfl⟩
 ·rename_i x _
  obtain⟨avs,parts,av,ch,pm,so⟩:=h;have sp:=CRT.all_sep (cs:=avs) c0 (by rw[av.names]; exact nd) ch (IW ch) (O3 av c0 ch) (nm:=x.nm);exact CRT.form_of (by lia) (sp.perm pm) so (fun n=>(CRT.inS_perm pm).trans (CRT.all_in c0 ch)) (fun s _ _ y=>by cases y)
theorem Qw (a:CRT.Av Str):∀ (as:List (CRT.Av Str)) (un:List CR.Rn),CRT.paidS (as++[a]) un=CRT.paidS as un++CRT.tag a.1 (-1) (CRT.payW a (CRT.leftS as un))/\CRT.leftS (as++[a]) un=CR.outW (CRT.leftS as un) (CRT.payW a (CRT.leftS as un))
 | [],un=>⟨by show CRT.tag a.1 (-1) (CRT.payW a un)++[]=[]++CRT.tag a.1 (-1) (CRT.payW a un); simp,rfl⟩
 | c::as,un=>by
  have ih:=Qw a as (CR.outW un (CRT.payW c un));refine⟨?_,ih.2⟩;show CRT.tag c.1 (-1) (CRT.payW c un)++CRT.paidS (as++[a]) _=(CRT.tag c.1 (-1) (CRT.payW c un)++CRT.paidS as _)++_;rw[ih.1,zBA];rfl
theorem GQ {un:List CR.Rn} {B:List Int} (f:CR.Frm un) (e:CRT.EndsIn B un):un.length<=B.length:=by
 have nd:(un.map (·.1)).Nodup:=by
  rw[zBt,zBI];refine f.pw.imp_of_mem fun {p q} hp hq h z=>?_;have:=f.lt p hp
  lia
 have:=CRT.few_of (m:=B) nd fun x hx=>by
  obtain⟨p,hp,rfl⟩:=zAy.mp hx;exact (e p hp).1
 rwa [zAb] at this
theorem B9 {c:Int} (c0:0<c) (as:List (CRT.Av Str)):(CRT.leftS as [(0,c)]).length<=2+3*as.length:=by
 obtain⟨B,b1,b2,b3,b4⟩:=CRT.paid_ends (cs:=as) (B:=[0,c]) (CRT.frm_one c0) (fun p hp=>by rw[zAk.mp hp]; simp);have:=GQ (CRT.leftS_frm (CRT.frm_one c0)) b3;rw[b1] at this;exact this
theorem HM (a:CRT.Av Str) (un:List CR.Rn):(CRT.payW a un).length<=un.length:=by
 unfold CRT.payW
 split
 ·exact CR.cutW_len _ _ _
 ·exact zAG (CR.lowW_len _ _) (CR.cutW_len _ _ _)
theorem Sts.tupF {K:zAa} {H:Hp}:∀ {xs:List V} {S:List Zz},Sts H xs S->TupF K H xs (S.map (·.1))
 | [],[],_=>trivial
 | [],_::_,h=>h.elim
 | _::_,[],h=>h.elim
 | x::xs,p::ps,⟨⟨t,e,h⟩,r⟩=>⟨⟨t,_,e,SqT.of h,rfl⟩,Sts.tupF r⟩
theorem Sts.pick {H:Hp} {xs:List V} {S:List Zz} (h:Sts H xs S):∀ l:List Nat,(∀ i∈l,i<S.length)->Sts H (l.map fun i=>xs.getD i .non) (l.map fun i=>S.getD i (0,0, "",0))
 | [],_=>trivial
 | i::l,hl=>by
  have hi:=hl i zAj;have lx:=h.len;obtain⟨t,p,e1,e2,e3⟩:=h.get (i:=i) (zAd (by lia));refine⟨⟨t,?_,?_⟩,Sts.pick h l fun j hj=>hl j (zAg _ hj)⟩
  ·show xs.getD i .non = .ref t
   rw[zAs,zAd (by lia)];exact e2
  ·show H t=some (.tup (DK (S.getD i (0,0, "",0))))
   rw[zAs,e1];exact e3
def Tf (κ:A8) (CC CO CL CM C CB CN:Addr):Sp:=fun vs H Q _=>∃ b cp kp kvs l z bs,vs=[.ref b,.ref cp,.ref l]/\AskAt κ CC CO CL CM C CB H b bs/\(∀ x∈bs,Ow x.t<4)/\bs.length<=8/\(bs.map (·.nm)).Nodup/\CtAt CN H cp kp kvs/\IntV kvs/\H l=some (.tup (LF.vs z))/\0<z.ct /\
 ∀ r ys S H',Same H H'->H r=none->H' r=some (.lst ys)->Sts H' ys S->Gw kvs z (asked z bs) S->S.length<64->Q (.ref r) H'
section
seal L2.PS L2.PSs L2.PE L2.PA
variable {P:Program} {w:World} {K:zAa} {mg:Str->Option Value} {base:Heap} {Ac Ah Ag Am Au Bc Ba At Ae Aw Al Aj Bg Ai Bd Aq:Addr}
theorem Yp:Bb ["book", "counts", "loss", "cents", "asked", "unpaid", "strips", "cover", "paid", "first"] ["book", "counts", "loss"] (As Kh):=by injections
theorem Ye {f:Addr} {fd:zCC} (F:Fun K "strips_of" "strips_of" Kh f fd) (T:Txt K mg) (L:Kl K mg Ac Ah Ag Am Au Bc Ba At Ae Aw Al Aj Bg Ai Bd Aq) (Casked_of:Cn P w K mg base 6 "asked_of" ["book", "loss"] (Yc (A8.mk Ac Ah Ag Am Au Bc Ba At) Ae Aw Al Aj Ai Bd 4)) (Cnumbers_of:Cn P w K mg base 3 "numbers_of" ["cover", "counts", "loss"] (G4 (A8.mk Ac Ah Ag Am Au Bc Ba At) Ae Aw Al Aj Ai Aq))
  (Cpaid_runs:Cn P w K mg base 5 "paid_runs" ["cover", "numbers", "cents", "unpaid"] (P6 (A8.mk Ac Ah Ag Am Au Bc Ba At) Ae Aw Al Aj Ai)) (Cborne_strips:Cn P w K mg base 5 "borne_strips" ["cover", "numbers", "cents", "unpaid"] (Yw (A8.mk Ac Ah Ag Am Au Bc Ba At) Ae Aw Al Aj Ai)) (Ccut_out:Cn P w K mg base 2 "cut_out" ["runs", "others"] DR) :
  FnOk P w K mg base Cu 7 f fd ["book", "counts", "loss"] (Tf (A8.mk Ac Ah Ag Am Au Bc Ba At) Ae Aw Al Aj Ai Bd Aq):=by
 have sc:=Yp;bv_omega
 ·obtain⟨_,_,_,_,_,_,_,rfl,_⟩:=h
  rfl
 obtain⟨b,cp,kp,kvs,l,z,bs,rfl,ask,hm,l8,nd,ct,iv,hl,c0,q⟩:=h;refine⟨_,(Ad (Bf (i:=3) sc.nd rfl (Or.inl rfl) (Bh Bp (pv 2) (Dk T.g_CENTS rfl) (fun _ _=>rfl)))
   (Ad (Bf (i:=4) sc.nd rfl (Or.inl rfl) (Ax Casked_of (hr.mono (by decide)) rfl (Aa (pv 0) (Aa (pv 2) Af))))
   (Ad (Bv (Dh (DL (pv 4)))
    (Ao (Be (Cg (Aa (Cc (Aa Ak (Aa (pv 3) (Aa Ca (Aa Ak Af))))) Af))))
    Bl)
   (Ad (Bf (i:=5) sc.nd rfl (Or.inl rfl) (Cg (Aa (Cc (Aa Ak (Aa (pv 3) Af))) Af)))
   (Ad (Bf (i:=6) sc.nd rfl (Or.inl rfl) (Cg Af))
   (Ad (Cm PassesOwn.never rfl (Cb (pv 4)) (Az (i:=7) sc.nd rfl (Or.inr rfl))
    (Ad (Bf (i:=8) sc.nd rfl (Or.inl rfl) (Ax Cpaid_runs (hr.mono (by decide)) rfl (Aa (pv 7) (Aa (Ax Cnumbers_of (hr.mono (by decide)) rfl (Aa (pv 7) (Aa (pv 1) (Aa (pv 2) Af)))) (Aa (pv 3) (Aa (pv 5) Af))))))
   (Ad (Cp (Gi PySem.F.plainAttrs_list PySem.F.slot_list_extend PySem.F.type_list_extend Kk (pv 6) (Aa (Dj (NC:=["run", "cover"]) (own:=["run"]) (cs:=["cover"]) (ix:=[7]) rfl (CompScope.of rfl) rfl ⟨⟨rfl,.inl rfl,rfl⟩,trivial⟩ (Cb (pv 8)) (fun _ _ _=>(Az (i:=0) (show (["run", "cover"]:List Str).Nodup from by ac_nf) rfl (Or.inl rfl))) (fun _ _ _=>Dd) (fun _ _ _=>(Cc (Aa (Bh (Ee (K:=K) rfl) (pv 0) Ak (fun _ _=>rfl)) (Aa (Bh (Ee (K:=K) rfl) (pv 0) Ak (fun _ _=>rfl)) (Aa (Kn (K:=K) (pv 1) rfl) (Aa (E4 Th Ak) Af))))))) Af)))
   (Ao (Bf (i:=5) sc.nd rfl (Or.inl rfl) (Ax Ccut_out (hr.mono (by decide)) rfl (Aa (pv 5) (Aa (pv 8) Af))))))))
   (Ad (Bf (i:=9) sc.nd rfl (Or.inl rfl) (Bh Bo (pv 4) Ak (fun _ _=>rfl)))
   (Ad (Cp (Gi PySem.F.plainAttrs_list PySem.F.slot_list_extend PySem.F.type_list_extend Kk (pv 6) (Aa (Ax Cborne_strips (hr.mono (by decide)) rfl (Aa (pv 9) (Aa (Ax Cnumbers_of (hr.mono (by decide)) rfl (Aa (pv 9) (Aa (pv 1) (Aa (pv 2) Af)))) (Aa (pv 3) (Aa (pv 5) Af))))) Af)))
   (Ao (Be (Bn Xd rfl T.n_sorted (show zCB _=some (.builtin "sorted") from rfl) (Aa (pv 6) Af)))))))))))),?_⟩
 have one:1<=sizeLine:=by rw[zCA]; decide
 have two:2<=sizeLine:=by rw[zCA]; decide
 refine (vE rfl (vI rfl rfl (SqT.of hl) rfl ?_));refine Dp [some (.ref b),some (.ref cp),some (.ref l),some (.int z.ct),none,none,none,none,none,none] rfl ?_;refine (vE rfl (vE rfl ⟨b,l,bs,z,rfl,ask,hm,by lia,hl,fun ak H1 s1 nak hak=>?_⟩));refine Dp [some (.ref b),some (.ref cp),some (.ref l),some (.int z.ct),some (.ref ak),none,none,none,none,none] rfl ?_;have sub:∀ x∈asked z bs,x∈bs:=fun x hx=>(zBr.mp hx).1;have la:(asked z bs).length<=8:=zAG (zBg _ _) l8;have nda:((asked z bs).map (·.nm)).Nodup:=nd.sublist (List.Sublist.map _ List.filter_sublist);obtain⟨_,_,_,_,_,_,all⟩:=ask;have alla:∀ x∈asked z bs,CvxAt (A8.mk Ac Ah Ag Am Au Bc Ba At) Ae Aw Al Aj Ai H1 x:=fun x hx=>(all x (sub x hx)).same s1;have ct1:=ct.same s1;have hl1:=s1 _ _ hl;clear all ct hl hm l8 nd;generalize asked z bs=as at hak sub la nda alla q;refine (vE rfl ⟨_,.inl ⟨_,SqL.of hak,rfl⟩,?_⟩);cases eas:as with
 | nil=>
  rw[eas] at q;refine Po (vE rfl ⟨Ci (by show 4<=1000; decide),fun t nt=>⟨one,fun r nr=>?_⟩⟩);have s2:=An nt (.tup (DK (0,z.ct, "",0)));have s3:=An nr (.lst [V.ref t]);exact q r [.ref t] [(0,z.ct, "",0)] _ (s1.trans (s2.trans s3)) (s1.free (s2.free nr)) Ab (Sts.one (s3 _ _ Ab)) rfl (show 1<64 by decide)
 | cons x0 more=>
 refine Dy ?_;have e0:as[0]?=some x0:=by rw[eas]; rfl
 refine (vE rfl ⟨two,fun t0 nt0=>⟨one,fun u0 nu0=>?_⟩⟩);have s2:=(An nt0 (.tup [V.int 0,.int z.ct])).trans (An nu0 (.lst [V.ref t0]));have lu0:LP (upd (upd H1 t0 (.tup [V.int 0,.int z.ct])) u0 (.lst [V.ref t0])) u0 [(0,z.ct)]:=⟨_,Ab,⟨t0,rfl,An nu0 (.lst [V.ref t0]) _ _ Ab⟩,trivial⟩;generalize upd (upd H1 t0 (.tup [V.int 0,.int z.ct])) u0 (.lst [V.ref t0])=H2 at s2 lu0;refine Dp [some (.ref b),some (.ref cp),some (.ref l),some (.int z.ct),some (.ref ak),some (.ref u0),none,none,none,none] rfl ?_;refine⟨zAB _,fun st nst=>?_⟩;have S3:=s2.trans (An nst (.lst []));have fst:=s2.free nst;have lu3:=LP.same (An nst (.lst [])) lu0;have hst3:upd H2 st (.lst []) st=some (.lst []):=Ab;have nus:u0≠st:=by
  obtain⟨_,y,_⟩:=lu0;exact Ap y nst
 generalize upd H2 st (.lst [])=H3 at S3 lu3 hst3;refine Dp [some (.ref b),some (.ref cp),some (.ref l),some (.int z.ct),some (.ref ak),some (.ref u0),some (.ref st),none,none,none] rfl ?_;have hak3:=S3 _ _ hak;have ncs:cp≠st/\kp≠st:=by
  obtain⟨⟨_,_,y,_⟩,y2⟩:=id ct1;exact⟨Ap y fst,Ap y2 fst⟩
 refine (vE rfl ⟨ak,rfl,⟨_,SqL.of hak3⟩,?_⟩);refine Dg (K:=K) (a:=ak) (xs:=as.map xV) (fun i σ H4=>(∃ u o7 o8,σ=[some (.ref b),some (.ref cp),some (.ref l),some (.int z.ct),some (.ref ak),some (.ref u),some (.ref st),o7,o8,none]/\u≠st /\
   ∃ avs ys,Avs kvs z (as.take i) avs/\LP H4 u (CRT.leftS avs [(0,z.ct)])/\H4 st=some (.lst ys)/\Sts H4 ys (CRT.paidS avs [(0,z.ct)])/\ys.length<=60*i)/\Same H1 H4)
  ⟨⟨u0,none,none,rfl,nus,[],[],trivial,lu3,hst3,trivial,zAn _⟩,S3⟩ (fun i σ H4 _ hh=>SqL.of (hh.2 _ _ hak)) ?_ ?_
 ·rintro i y σ H4 hi ⟨⟨u,o7,o8,rfl,nu,avs,ys,av,lu,h4,sy,ly⟩,S4⟩
  rw[zAw] at hi;obtain⟨x,hx,rfl⟩:=zAW.mp hi;have il:i<as.length:=(zAi.mp hx).1;have lav:avs.length<=8:=by rw[av.len,zAx]; lia
  have lun:=B9 c0 avs;have cx:=(alla x (zAF hx)).same S4;generalize eun:CRT.leftS avs [(0,z.ct)]=un at lu lun;refine (vE rfl (vE rfl (vE rfl (vE rfl ⟨x,cp,kp,kvs,l,z,rfl,cx,ct1.same S4,iv,S4 _ _ hl1,fun nr H5 s5 nnr hnr=>(vE rfl (vE rfl ⟨x,nr,u,un,numsOf kvs z x,z.ct,rfl,cx.same s5,hnr,D3 kvs z x,LP.same s5 lu,by lia,fun pd W H6 s6 npd wa lp6=>?_⟩))⟩))));refine Dp [some (.ref b),some (.ref cp),some (.ref l),some (.int z.ct),some (.ref ak),some (.ref u),some (.ref st),some (.ref x.p),some (.ref pd),none] rfl ?_;have s56:=s5.trans s6;have lpy:=HM (x.nm,W,(Bx x.cs (numsOf kvs z x)).map (·.1)) un;have av':KY kvs z x (x.nm,W,(Bx x.cs (numsOf kvs z x)).map (·.1)):=⟨W,wa,rfl⟩;have sn:=Qw (x.nm,W,(Bx x.cs (numsOf kvs z x)).map (·.1)) avs [(0,z.ct)];rw[eun] at sn;generalize (x.nm,W,(Bx x.cs (numsOf kvs z x)).map (·.1))=av1 at lp6 lpy av' sn;have en:av1.1=x.nm:=by obtain⟨_,_,y⟩:=av'; rw[y]
  rw[en] at sn;have h6:=s56 _ _ h4;obtain⟨rs,hpd,pr⟩:=id lp6;have lr:=pr.len;obtain⟨dx,fs,_,_,_,e,a1,_⟩:=cx.same s56;refine (vE rfl ⟨.inl ⟨rfl,_,SqL.of h6⟩,vE rfl ⟨pd,rfl,⟨_,SqL.of hpd⟩,fun c1 nc1=>?_⟩⟩);refine Ck (K:=K) (a:=pd) (xs:=rs) (fun j zs H7=>Sts H7 zs (CRT.tag x.nm (-1) ((CRT.payW av1 un).take j))/\H7 c1=some (.lst zs)/\Same H6 H7) ⟨trivial,Ab,An nc1 _⟩
   (fun j zs H7 _ ⟨e6,x1,x2⟩=>⟨x1,by rw[e6.len]; unfold CRT.tag; rw[zAb,zAx]; lia,SqL.of (x2 _ _ hpd)⟩) (by rw[zCA]; lia) (fun j w zs H7 hj ⟨e6,x1,x2⟩=>?_) (fun zs H7 ⟨e6,x1,x2⟩=>?_)
  ·obtain⟨t',p',hp',rfl,ht'⟩:=pr.get hj
   refine (vE rfl (vI rfl rfl (SqT.of (x2 _ _ ht')) rfl (vE rfl (vI rfl rfl (SqT.of (x2 _ _ ht')) rfl (vE rfl ⟨x.p,Ai,dx,fs,_,rfl,x2 _ _ e,L.cl_Cover,L.na_Cover_name,a1,_,rfl,Ci (by show 4<=1000; decide),fun v1 nv1=>?_⟩)))));have s7:=An nv1 (.tup [.int p'.1,.int p'.2,.str x.nm,.int (-1)]);refine⟨s7 _ _ x1,rfl,?_,Ab,fun b o z=>?_⟩
   ·rw[Zc hp']
    exact ((e6.mono (Bq s7)).app (Sts.one (p:=(p'.1,p'.2,x.nm,-1)) Ab)).mono (Df (s7 _ _ x1) _)
   ·rw[Ar (Ap z nc1)]
    exact s7 _ _ (x2 b o z)
  rw[lr,zAE] at e6;have h7:=x2 _ _ h6;have lz:=e6.len;have lt:(CRT.tag x.nm (-1) (CRT.payW av1 un)).length=(CRT.payW av1 un).length:=by unfold CRT.tag; rw[zAb]
  refine⟨st,c1,ys,zs,rfl,rfl,h7,x1,by rw[zCA]; lia,?_⟩;have k7:HL H7 (upd H7 st (.lst (ys++zs))):=Df h7 _;have sts8:=((sy.mono (Bq (s56.trans x2))).app e6).mono k7;rw[<- sn.1] at sts8;have S8:Same H1 (upd H7 st (.lst (ys++zs))):=fun b o z=>by rw[Ar (Ap z fst)]; exact x2 _ _ (s56 _ _ (S4 _ _ z))
  have lpd8:LP (upd H7 st (.lst (ys++zs))) pd (CRT.payW av1 un):=by
   have npst:pd≠st:=(Ap (s5 _ _ h4) npd).symm;exact⟨rs,by rw[Ar npst]; exact x2 _ _ hpd,(pr.mono (Bq x2)).mono k7⟩
  have lu8:LP (upd H7 st (.lst (ys++zs))) u un:=by
   obtain⟨us,y1,y2⟩:=lu;exact⟨us,by rw[Ar nu]; exact x2 _ _ (s56 _ _ y1),(y2.mono (Bq (s56.trans x2))).mono k7⟩
  have h8:upd H7 st (.lst (ys++zs)) st=some (.lst (ys++zs)):=Ab;generalize upd H7 st (.lst (ys++zs))=H8 at sts8 S8 lpd8 lu8 h8;refine (vE rfl (vE rfl ⟨u,pd,un,CRT.payW av1 un,rfl,lu8,lpd8,by lia,by lia,fun u2 H9 s9 nu2 lp9=>?_⟩));have nu2':u2≠st:=(Ap h8 nu2).symm;refine⟨⟨u2,_,_,rfl,nu2',avs++[av1],ys++zs,?_,?_,s9 _ _ h8,sts8.mono (Bq s9),by rw[zAm]; lia⟩,S8.trans s9⟩
  ·rw[Bz hx]
   exact av.snoc av'
  ·rw[sn.2]
   exact lp9
 ·rintro σ H4 ⟨⟨u,o7,o8,rfl,nu,avs,ys,av,lu,h4,sy,ly⟩,S4⟩
  rw[zAb,zAE] at av;rw[zAb] at ly;have lav:avs.length<=8:=by rw[av.len]; exact la
  have lun:=B9 c0 avs;have at0:Me (as.map xV) 0=some (.ref x0.p):=Dr (by rw[zAw,e0]; rfl);refine (vE rfl (vI rfl rfl (SqL.of (S4 _ _ hak)) at0 ?_));refine Dp [some (.ref b),some (.ref cp),some (.ref l),some (.int z.ct),some (.ref ak),some (.ref u),some (.ref st),o7,o8,some (.ref x0.p)] rfl ?_;have cx:=(alla x0 (zAF e0)).same S4;refine (vE rfl ⟨.inl ⟨rfl,_,SqL.of h4⟩,vE rfl (vE rfl (vE rfl (vE rfl ⟨x0,cp,kp,kvs,l,z,rfl,cx,ct1.same S4,iv,S4 _ _ hl1,fun nr H5 s5 nnr hnr=>(vE rfl (vE rfl ⟨x0,nr,u,_,numsOf kvs z x0,z.ct,rfl,cx.same s5,hnr,D3 kvs z x0,LP.same s5 lu,by lia,by lia,fun r1 ys1 parts H6 s6 nr1 hr1 ch lpt sb l12=>?_⟩))⟩)))⟩);have s56:=s5.trans s6;have h6:=s56 _ _ h4;refine⟨st,r1,ys,ys1,rfl,rfl,h6,hr1,by rw[zCA]; lia,?_⟩;have sts7:=((sy.mono (Bq s56)).app sb).mono (Df h6 (.lst (ys++ys1)));have S7:Same H1 (upd H6 st (.lst (ys++ys1))):=fun b o z=>by rw[Ar (Ap z fst)]; exact s56 _ _ (S4 _ _ z)
  have h7:upd H6 st (.lst (ys++ys1)) st=some (.lst (ys++ys1)):=Ab;generalize upd H6 st (.lst (ys++ys1))=H7 at sts7 S7 h7;rw[eas] at av nda;have sp:CRT.Sep (CRT.allS avs x0.nm (Ua (Bx x0.cs (numsOf kvs z x0))) parts z.ct):=CRT.all_sep c0 (by rw[av.names]; exact nda) ch (IW ch) (O3 av c0 ch);have ln:=CRT.all_len (f:=CRP.fw (Br z.ct x0.cs (numsOf kvs z x0))) c0 sp;have sts8:Sts H7 (ys++ys1) (CRT.allS avs x0.nm (Ua (Bx x0.cs (numsOf kvs z x0))) parts z.ct):=sts7;generalize eS:CRT.allS avs x0.nm (Ua (Bx x0.cs (numsOf kvs z x0))) parts z.ct=S at sts8 sp ln;have lS:=sts8.len;refine (vE rfl ⟨st,ys++ys1,S.map (·.1),rfl,SqL.of h7,?_,sts8.tupF,sp.starts,fun r p nr pm up=>?_⟩)
  ·lia
  rw[lS] at pm up;obtain⟨o1,o2⟩:=X8 (d:=((0:Int),(0:Int),("" : Str),(0:Int))) (f:=fun s:Zz=>s.1) pm up sp.starts;have s8:=An nr (.lst (p.toList.map fun i=>(ys++ys1).getD i .non));refine q r _ (p.toList.map fun i=>S.getD i (0,0, "",0)) _ (s1.trans (S7.trans s8)) (s1.free (S7.free nr)) Ab ((sts8.pick p.toList fun i hi=>?_).mono (Bq s8)) ?_ (by rw[o1.length_eq]; lia)
  ·have pl:p.toList.Perm (zAI S.length):=by
    have:=zCe.mp pm
    simpa using this
   exact zBu.mp (pl.mem_iff.mp hi)
  ·rw[eas]
   exact⟨avs,parts,av,ch,by rw[eS]; exact o1,o2⟩
end
def Jh (u:Int):Prop:=1<=u/\u<=10000000019
def Vr:Sp:=fun vs H Q _=>∃ d u:Int,vs=[.int d,.int u]/\0<=d/\Jh u/\∀ m:Int,0<=m->m<=120000000230->Q (.int m) H
def M1 (K:zAa):Sp:=fun vs H Q _=>∃ a ns,vs=[.ref a]/\SqL K H a (List.map V.int ns)/\ns.length<=63/\∀ u H',Same H H'->Jh u->Q (.int u) H'
def N8:Sp:=fun vs H Q _=>∃ y l z,vs=[.str y,.ref l]/\H l=some (.tup (LF.vs z))/\Q (kV (Tk y z)) H
theorem QS:(10:Int)^(10:Int).toNat=10000000000:=by ac_nf
section
seal L2.PS L2.PSs L2.PE L2.PA
variable {P:Program} {w:World} {K:zAa} {mg:Str->Option Value} {base:Heap}
theorem Qn:Bb ["_law_digit", "_law_unit_here"] ["_law_digit", "_law_unit_here"] (As Hy):=by injections
theorem Rh {f:Addr} {fd:zCC} (F:Fun K "_law_amount" "_law_amount" Hy f fd) (T:Txt K mg):FnOk P w K mg base Cu 1 f fd ["_law_digit", "_law_unit_here"] Vr:=by
 have sc:=Qn;bv_omega
 ·obtain⟨_,_,rfl,_⟩:=h
  rfl
 obtain⟨d,u,rfl,d0,⟨u1,u2⟩,q⟩:=h;refine⟨_,(Ao (Be (Ay Cd (Ay Eb (Ay Bu (pv 0) Ak) (pv 1)) (Ay Bu (Ay Bw (pv 0) Ak) Ak)))),?_⟩;refine (vE rfl (vF rfl rfl ⟨(by show (0:Int)<13; decide),_,rfl,vF rfl rfl ⟨.inr ⟨by lia,by lia⟩,vE rfl (vF rfl rfl ⟨⟨by decide,by decide⟩,_,_,rfl,rfl,(by show (0:Int)<3; decide),_,_,rfl,rfl,?_⟩)⟩⟩));have m1:=md (a:=d) (b:=13) (by decide);have m2:=md (a:=d/13) (b:=3) (by decide);have p0:0<=d%13*u:=Int.mul_nonneg m1.1 (by lia);have p1:d%13*u<=12*10000000019:=Int.mul_le_mul (by lia) u2 (by lia) (by decide);exact q _ (by lia) (by lia)
theorem Wn:Bb ["_law_script"] ["_law_script"] (As Jx):=by injections
theorem Yu {f:Addr} {fd:zCC} (F:Fun K "_law_unit" "_law_unit" Jx f fd) (T:Txt K mg) (C_law_cell:Cn P w K mg base 1 "_law_cell" ["_law_script", "_law_k"] (Oo K)) (C_law_spread:Cn P w K mg base 1 "_law_spread" ["_law_cell_here"] Ia):FnOk P w K mg base Cu 2 f fd ["_law_script"] (M1 K):=by
 have sc:=Wn;bv_omega
 ·obtain⟨_,_,rfl,_⟩:=h
  rfl
 obtain⟨a,ns,rfl,ha,l63,q⟩:=h;refine⟨_,(Ao (Be (Bh Bo (Cg (Aa Ak (Aa Ak (Aa Ak (Aa Ak (Aa (Ay Cd (Ay Rb Ak Ak) Ak) Af)))))) (Ay Bu (Ax C_law_spread (hr.mono (by decide)) rfl (Aa (Ax C_law_cell (hr.mono (by decide)) rfl (Aa (pv 0) (Aa Ak Af))) Af)) Ak) (fun _ _=>rfl)))),?_⟩;refine (vF rfl rfl ⟨⟨by decide,by decide,by decide⟩,_,_,rfl,rfl,Ci (by show 5<=1000; decide),fun l nl=>?_⟩);have s1:=An nl (.lst [V.int 1,.int 1,.int 97,.int 1000,.int ((10:Int)^(10:Int).toNat+19)]);refine (vE rfl ⟨a,ns,0,rfl,s1.seq ha,by lia,l63,vE rfl (fun r r0 r1=>(vF rfl rfl ⟨(by show (0:Int)<5; decide),?_⟩))⟩);have m:=md (a:=r) (b:=5) (by decide);have five:r%5=0\/r%5=1\/r%5=2\/r%5=3\/r%5=4:=by lia
 obtain⟨u,hu,uo⟩:∃ u:Int,Me [V.int 1,.int 1,.int 97,.int 1000,.int ((10:Int)^(10:Int).toNat+19)] (r%5)=some (.int u)/\Jh u:=by
  rcases five with e | e | e | e | e <;> rw[e]
  ·exact⟨1,rfl,by decide,by decide⟩
  ·exact⟨1,rfl,by decide,by decide⟩
  ·exact⟨97,rfl,by decide,by decide⟩
  ·exact⟨1000,rfl,by decide,by decide⟩
  ·exact⟨(10:Int)^(10:Int).toNat+19,rfl,by rw[QS]; decide,by rw[QS]; decide⟩
 exact (vI rfl rfl (SqL.of Ab) hu (q u _ s1 uo))
theorem C9:Bb ["_law_by", "_law_loss_here"] ["_law_by", "_law_loss_here"] (As Le):=by injections
theorem Zb {f:Addr} {fd:zCC} (F:Fun K "_law_key" "_law_key" Le f fd) (T:Txt K mg):FnOk P w K mg base Cu 1 f fd ["_law_by", "_law_loss_here"] N8:=by
 have sc:=C9;bv_omega
 ·obtain⟨_,_,_,rfl,_⟩:=h
  rfl
 obtain⟨y,l,z,rfl,hl,q⟩:=h;refine⟨_,(Ad (Bv (Bk Db (pv 0) Ca (Bm _))
    (Ao (Be (Bh Bp (pv 1) Ak (fun _ _=>rfl))))
    Bl)
   (Ad (Bv (Bk Db (pv 0) Ca (Bm _))
    (Ao (Be (Bh Bp (pv 1) Ak (fun _ _=>rfl))))
    Bl)
   (Ad (Bv (Bk Db (pv 0) Ca (Bm _))
    (Ao (Be (Ay Bw (Bh Bp (pv 1) Ak (fun _ _=>rfl)) Ak)))
    Bl)
   (Ao (Be (Bh Bp (pv 1) Ak (fun _ _=>rfl))))))),?_⟩
 unfold Tk at q;refine (vE rfl ⟨rfl,vE rfl ?_⟩);by_cases c1:y = "event"
 ·rw[if_pos c1] at q
  exact dT (congrArg V.str c1) (vE rfl (vI rfl rfl (SqT.of hl) rfl q))
 rw[if_neg c1] at q;refine dF (fun e=>c1 (V.str.inj e)) (vE rfl ⟨rfl,vE rfl ?_⟩);by_cases c2:y = "thing"
 ·rw[if_pos c2] at q
  exact dT (congrArg V.str c2) (vE rfl (vI rfl rfl (SqT.of hl) rfl q))
 rw[if_neg c2] at q;refine dF (fun e=>c2 (V.str.inj e)) (vE rfl ⟨rfl,vE rfl ?_⟩);by_cases c3:y = "year"
 ·rw[if_pos c3] at q
  exact dT (congrArg V.str c3) (vE rfl (vI rfl rfl (SqT.of hl) rfl (vF rfl rfl ⟨⟨by decide,by decide⟩,q⟩)))
 rw[if_neg c3] at q;exact dF (fun e=>c3 (V.str.inj e)) (vE rfl (vI rfl rfl (SqT.of hl) rfl q))
end
abbrev AF:=Str×Str×Int×Int
def Ll (r:AF):List V:=[.str r.1,.str r.2.1,.int r.2.2.1,.int r.2.2.2]
def QC (r:AF):Prop:=(r.1 = "own" \/ r.1 = "layer" \/ r.1 = "limit")/\Pi r.2.1/\(0<=r.2.2.1/\r.2.2.1<=120000000230)/\(r.1 = "layer" -> r.2.2.1<r.2.2.2/\r.2.2.2<=240000000461)
def Fu (r:AF):Cl:=if r.1 = "own" then .own r.2.1 r.2.2.1 else if r.1 = "layer" then .lay r.2.1 r.2.2.1 r.2.2.2 else .lim r.2.1 r.2.2.1
def KH:Sp:=fun vs H Q _=>∃ c u:Int,vs=[.int c,.int u]/\0<=c/\Jh u/\∀ t r H',Same H H'->H t=none->H' t=some (.tup (Ll r))->QC r->Q (.ref t) H'
def WorldAt (H:Hp) (w:Addr) (A B C D:List Str):Prop:=∃ a b c d,H w=some (.lst [.ref a,.ref b,.ref c,.ref d])/\H a=some (.lst (A.map V.str))/\H b=some (.lst (B.map V.str))/\H c=some (.lst (C.map V.str))/\H d=some (.lst (D.map V.str))
structure PF (A B C D:List Str):Prop where
 a:Nms A
 b:Nms B
 c:Nms C
 d:Nms D
 la:A.length=3
 lb:B.length=3
 lc:C.length=3
 ld:D.length<=5
def Wu (K:zAa):Sp:=fun vs H Q _=>∃ a ns,vs=[.ref a,.int 5]/\SqL K H a (List.map V.int ns)/\ns.length<=63/\∀ w A B C D H',Same H H'->WorldAt H' w A B C D->PF A B C D->Q (.ref w) H'
section
seal L2.PS L2.PSs L2.PE L2.PA
variable {P:Program} {w:World} {K:zAa} {mg:Str->Option Value} {base:Heap}
theorem Ke:Bb ["_law_cell_here", "_law_unit_here", "_law_by", "_law_low", "_law_way"] ["_law_cell_here", "_law_unit_here"] (As Ea):=by injections
theorem Kg {f:Addr} {fd:zCC} (F:Fun K "_law_drawn_clause" "_law_drawn_clause" Ea f fd) (T:Txt K mg) (C_law_amount:Cn P w K mg base 1 "_law_amount" ["_law_digit", "_law_unit_here"] Vr):FnOk P w K mg base Cu 2 f fd ["_law_cell_here", "_law_unit_here"] KH:=by
 have sc:=Ke;bv_omega
 ·obtain⟨_,_,rfl,_⟩:=h
  rfl
 obtain⟨c,u,rfl,c0,uo,q⟩:=h;refine⟨_,(Ad (Bf (i:=2) sc.nd rfl (Or.inl rfl) (Bh Bo (Cg (Aa Ca (Aa Ca (Aa Ca (Aa Ca Af))))) (Ay Bu (pv 0) Ak) (fun _ _=>rfl)))
   (Ad (Bf (i:=3) sc.nd rfl (Or.inl rfl) (Ax C_law_amount (hr.mono (by decide)) rfl (Aa (Ay Bu (Ay Bw (pv 0) Ak) Ak) (Aa (pv 1) Af))))
   (Ad (Bf (i:=4) sc.nd rfl (Or.inl rfl) (Ay Bu (Ay Bw (pv 0) Ak) Ak))
   (Ad (Bv (Bk Fw (pv 4) Ak (Bm _))
    (Ao (Be (Cc (Aa Ca (Aa (pv 2) (Aa (Ay Bw (pv 3) Ak) (Aa Ak Af)))))))
    Bl)
   (Ad (Bv (Bk Db (pv 4) Ak (Bm _))
    (Ao (Be (Cc (Aa Ca (Aa (pv 2) (Aa (pv 3) (Aa (Ay Cd (Ay Cd (pv 3) Ak) (Ax C_law_amount (hr.mono (by decide)) rfl (Aa (Ay Bu (Ay Bw (pv 0) Ak) Ak) (Aa (pv 1) Af)))) Af)))))))
    Bl)
   (Ao (Be (Cc (Aa Ca (Aa (pv 2) (Aa (pv 3) (Aa Ak Af)))))))))))),?_⟩
 have four:4<=sizeLine:=by rw[zCA]; decide
 refine⟨four,fun l nl=>?_⟩;have m4:=md (a:=c) (b:=4) (by decide);have f4:c%4=0\/c%4=1\/c%4=2\/c%4=3:=by lia
 obtain⟨y,hy,wy⟩:∃ y:Str,Me [V.str "event",.str "thing",.str "year",.str "loss"] (c%4)=some (.str y)/\Pi y:=by
  rcases f4 with e | e | e | e <;> rw[e]
  ·exact (vE rfl (.inl rfl))
  ·exact (vE rfl (.inr (.inl rfl)))
  ·exact (vE rfl (.inr (.inr (.inl rfl))))
  ·exact (vE rfl (.inr (.inr (.inr rfl))))
 refine (vE rfl (vF rfl rfl ⟨(by show (0:Int)<4; decide),vI rfl rfl (SqL.of Ab) hy ?_⟩));have s1:=An nl (.lst [V.str "event",.str "thing",.str "year",.str "loss"]);refine Dp [some (.int c),some (.int u),some (.str y),none,none] rfl ?_;have d20:=md (a:=c/20) (b:=39) (by decide);refine (vE rfl (vF rfl rfl ⟨⟨by decide,by decide⟩,_,_,rfl,rfl,(by show (0:Int)<39; decide),_,rfl,_,u,rfl,d20.1,uo,fun m m0 m1=>?_⟩));refine Dp [some (.int c),some (.int u),some (.str y),some (.int m),none] rfl ?_;refine (vE rfl (vF rfl rfl ⟨⟨by decide,by decide⟩,_,_,rfl,rfl,(by show (0:Int)<5; decide),?_⟩));refine Na 0 4 (md (by decide)) fun way w0 w4=>?_;refine (vE rfl (vF rfl rfl (vE rfl ?_)));by_cases c1:way<2
 ·refine dT c1 (vE rfl (vE rfl (vF rfl rfl ⟨⟨by decide,by decide⟩,four,fun t nt=>?_⟩)))
  exact q t ("own",y,m/2,0) _ (s1.trans (An nt _)) (s1.free nt) Ab ⟨.inl rfl,wy,⟨by show 0<=m/2; lia,by show m/2<=_; lia⟩,fun z=>absurd (show Str.ofString "own" = Str.ofString "layer" from z) (by ac_nf)⟩
 refine dF c1 (vE rfl ⟨rfl,vE rfl ?_⟩);by_cases c2:way=2
 ·have d78:=md (a:=c/780) (b:=39) (by decide)
  refine dT (congrArg V.int c2) (vE rfl (vE rfl (vE rfl (vF rfl rfl (vE rfl (vF rfl rfl ⟨⟨by decide,by decide⟩,_,_,rfl,rfl,(by show (0:Int)<39; decide),_,rfl,_,u,rfl,d78.1,uo,fun m' m0' m1'=>(vF rfl rfl ⟨four,fun t nt=>?_⟩)⟩))))));exact q t ("layer",y,m,m+1+m') _ (s1.trans (An nt _)) (s1.free nt) Ab ⟨.inr (.inl rfl),wy,⟨m0,m1⟩,fun _=>⟨by show m<m+1+m'; lia,by show m+1+m'<=_; lia⟩⟩
 ·refine dF (fun e=>c2 (V.int.inj e)) (vE rfl (vE rfl ⟨four,fun t nt=>?_⟩))
  exact q t ("limit",y,m,0) _ (s1.trans (An nt _)) (s1.free nt) Ab ⟨.inr (.inr rfl),wy,⟨m0,m1⟩,fun z=>absurd (show Str.ofString "limit" = Str.ofString "layer" from z) (by ac_nf)⟩
theorem Ut:Bb ["_law_script", "_law_most", "_law_cell_here", "_law_many"] ["_law_script", "_law_most"] (As Io):=by injections
theorem Ui {f:Addr} {fd:zCC} (F:Fun K "_law_world" "_law_world" Io f fd) (T:Txt K mg) (C_law_cell:Cn P w K mg base 1 "_law_cell" ["_law_script", "_law_k"] (Oo K)) (C_law_spread:Cn P w K mg base 1 "_law_spread" ["_law_cell_here"] Ia) (C_law_names:Cn P w K mg base 1 "_law_names" ["_law_cell_here", "_law_many"] Qk):FnOk P w K mg base Cu 2 f fd ["_law_script", "_law_most"] (Wu K):=by
 have sc:=Ut;bv_omega
 ·obtain⟨_,_,rfl,_⟩:=h
  rfl
 obtain⟨a,ns,rfl,ha,l63,q⟩:=h;refine⟨_,(Ad (Bf (i:=2) sc.nd rfl (Or.inl rfl) (Ax C_law_spread (hr.mono (by decide)) rfl (Aa (Ax C_law_cell (hr.mono (by decide)) rfl (Aa (pv 0) (Aa Ak Af))) Af)))
   (Ad (Bf (i:=3) sc.nd rfl (Or.inl rfl) (Ay Bu (Ay Bw (Ax C_law_spread (hr.mono (by decide)) rfl (Aa (Ax C_law_cell (hr.mono (by decide)) rfl (Aa (pv 0) (Aa Ak Af))) Af)) Ak) (Ay Cd (pv 1) Ak)))
   (Ao (Be (Cg (Aa (Ax C_law_names (hr.mono (by decide)) rfl (Aa (Ay Bw (pv 2) Ak) (Aa Ak Af))) (Aa (Ax C_law_names (hr.mono (by decide)) rfl (Aa (Ay Bw (pv 2) Ak) (Aa Ak Af))) (Aa (Ax C_law_names (hr.mono (by decide)) rfl (Aa (Ay Bw (pv 2) Ak) (Aa Ak Af))) (Aa (Ax C_law_names (hr.mono (by decide)) rfl (Aa (pv 2) (Aa (pv 3) Af))) Af))))))))),?_⟩
 refine (vE rfl ⟨a,ns,1,rfl,ha,by lia,l63,vE rfl (fun r r0 r1=>?_)⟩);refine Dp [some (.ref a),some (.int 5),some (.int r),none] rfl ?_;refine (vE rfl ⟨a,ns,0,rfl,ha,by lia,l63,vE rfl (fun r2 r20 r21=>(vF rfl rfl ⟨⟨by decide,by decide⟩,_,rfl,vF rfl rfl (vF rfl rfl ⟨(by show (0:Int)<5+1; decide),?_⟩)⟩))⟩);refine Na 0 5 (md (b:=6) (by decide)) fun many n0 n5=>?_;refine (vE rfl (vF rfl rfl ⟨⟨by decide,by decide⟩,_,3,rfl,by lia,by decide,by decide,fun a1 A H1 s1 na1 ha1 NA lA=>?_⟩));refine (vE rfl (vF rfl rfl ⟨⟨by decide,by decide⟩,_,3,rfl,by lia,by decide,by decide,fun b1 B H2 s2 nb1 hb1 NB lB=>?_⟩));refine (vE rfl (vF rfl rfl ⟨⟨by decide,by decide⟩,_,3,rfl,by lia,by decide,by decide,fun c1 C H3 s3 nc1 hc1 NC lC=>?_⟩));refine (vE rfl (vE rfl ⟨r,many,rfl,r0,n0,by lia,fun d1 D H4 s4 nd1 hd1 ND lD=>⟨Ci (by show 4<=1000; decide),fun wl nwl=>?_⟩⟩));have s5:=An nwl (.lst [V.ref a1,.ref b1,.ref c1,.ref d1]);exact q wl A B C D _ (s1.trans (s2.trans (s3.trans (s4.trans s5)))) ⟨a1,b1,c1,d1,Ab,s5 _ _ (s4 _ _ (s3 _ _ (s2 _ _ ha1))),s5 _ _ (s4 _ _ (s3 _ _ hb1)),s5 _ _ (s4 _ _ hc1),s5 _ _ hd1⟩ ⟨NA,NB,NC,ND,by lia,by lia,by lia,by lia⟩
def N7 (n:Str):Prop:=∃ l,n=tx l/\Qq l
def Ot:Co->Prop
 | .alw=>True
 | .cau n=>N7 n
 | .thi n=>N7 n
 | .day a b=>0<=a/\a<=b/\b<=1000000
 | .ovr m=>0<=m/\m<=999999999999
theorem Nm {H H':Hp} {p:Addr} {o:HO} (h:H p=none) (s:Same H H'):Same H (upd H' p o):=fun b u e=>by rw[Ar (Ap e h)]; exact s _ _ e
theorem Tn {H:Hp} {y d:Addr} {o1 o2:HO} (hy:H y=none) (hd:H d=none):Same H (upd (upd H d o1) y o2):=fun b o e=>by rw[Ar (Ap e hy),Ar (Ap e hd)]; exact e
theorem Gv {H:Hp} {y d:Addr} {o1 o2 o3:HO} (hy:H y=none) (hd:H d=none):Same H (upd (upd (upd H d o1) y o2) y o3):=fun b o e=>by rw[Ar (Ap e hy),Ar (Ap e hy),Ar (Ap e hd)]; exact e
def Off (p:Addr) (H:Hp):Hp:=fun b=>if b=p then none else H b
theorem Off.at {p b:Addr} {H:Hp} {o:HO} (h:Off p H b=some o):b≠p/\H b=some o:=by
 unfold Off at h;by_cases e:b=p
 ·rw[if_pos e] at h; cases h
 ·rw[if_neg e] at h; exact⟨e,h⟩
theorem Off.of {p b:Addr} {H:Hp} {o:HO} (n:b≠p) (h:H b=some o):Off p H b=some o:=by
 unfold Off;rw[if_neg n]; exact h
def I9:Sp:=fun vs H Q _=>∃ c u:Int,∃ th ca,∃ B C:List Str,vs=[.int c,.ref th,.ref ca,.int u]/\0<=c/\Jh u/\H th=some (.lst (B.map V.str))/\H ca=some (.lst (C.map V.str))/\B.length=3/\C.length=3/\(∀ z∈B,N7 z)/\(∀ z∈C,N7 z)/\∀ v t H',Same H H'->TrAt (Nw H H') v t->Ow t<3->Mx Ot t->Q v H'
theorem Jv {ns:List Str} {i:Int} (h0:0<=i) (h:i<ns.length):∃ z,z∈ns/\Me (ns.map V.str) i=some (.str z):=by
 obtain⟨j,rfl⟩:=Int.eq_ofNat_of_zero_le h0;have hj:j<ns.length:=by lia
 refine⟨ns[j],zAZ _,Dr ?_⟩;rw[zAw,zAd hj];rfl
theorem Wo:Bb ["_law_cell_here", "_law_things", "_law_causes", "_law_unit_here", "_law_cause", "_law_thing", "_law_over", "_law_first", "_law_some"] ["_law_cell_here", "_law_things", "_law_causes", "_law_unit_here"] (As Js):=by injections
theorem Xr {f:Addr} {fd:zCC} (F:Fun K "_law_cond" "_law_cond" Js f fd) (T:Txt K mg) (C_law_amount:Cn P w K mg base 1 "_law_amount" ["_law_digit", "_law_unit_here"] Vr):FnOk P w K mg base Cu 2 f fd ["_law_cell_here", "_law_things", "_law_causes", "_law_unit_here"] I9:=by
 have sc:=Wo;bv_omega
 ·obtain⟨_,_,_,_,_,_,rfl,_⟩:=h
  rfl
 obtain⟨c,u,th,ca,B,C,rfl,c0,uo,hth,hca,lB,lC,nB,nC,q⟩:=h;refine⟨_,(Ad (Bf (i:=4) sc.nd rfl (Or.inl rfl) (Cc (Aa Ca (Aa (Bh Bo (pv 2) (Ay Bu (Ay Bw (pv 0) Ak) Ak) (fun _ _=>rfl)) Af))))
   (Ad (Bf (i:=5) sc.nd rfl (Or.inl rfl) (Cc (Aa Ca (Aa (Bh Bo (pv 1) (Ay Bu (Ay Bw (pv 0) Ak) Ak) (fun _ _=>rfl)) Af))))
   (Ad (Bf (i:=6) sc.nd rfl (Or.inl rfl) (Cc (Aa Ca (Aa (Ax C_law_amount (hr.mono (by decide)) rfl (Aa (Ay Bu (Ay Bw (pv 0) Ak) Ak) (Aa (pv 3) Af))) Af))))
   (Ad (Bf (i:=7) sc.nd rfl (Or.inl rfl) (Ay Cd (Ay Eb Ak (Ay Bu (Ay Bw (pv 0) Ak) Ak)) (Ay Bu (Ay Bw (pv 0) Ak) Ak)))
   (Ad (Bf (i:=8) sc.nd rfl (Or.inl rfl) (Cg (Aa (pv 4) (Aa (pv 5) (Aa (pv 6) (Aa (Cc (Aa Ca (Aa (pv 7) (Aa (Ay Cd (pv 7) (Ay Bu (Ay Bw (pv 0) Ak) Ak)) Af)))) (Aa (Cc (Aa Ca (Aa (pv 4) Af))) Af)))))))
   (Ad (Bf (i:=8) sc.nd rfl (Or.inl rfl) (Ay Hv (pv 8) (Cg (Aa (Cc (Aa Ca (Aa (Cg (Aa (Cc (Aa Ca (Aa (pv 6) Af))) (Aa (pv 5) Af))) Af))) (Aa (Cc (Aa Ca (Aa (Cg (Aa (pv 4) (Aa (pv 5) (Aa (pv 6) Af)))) Af))) Af)))))
   (Ad (Bv (Bk Vq (Ay Bu (pv 0) Ak) Ak (Bm _))
    (Ao (Be (Bh Bo (pv 8) (Ay Ly (Ay Bu (pv 0) Ak) Ak) (fun _ _=>rfl))))
    Bl)
   (Ao (Be (Cc (Aa Ca Af))))))))))),?_⟩
 have two:2<=sizeLine:=by rw[zCA]; decide
 have three:3<=sizeLine:=by rw[zCA]; decide
 have five:5<=sizeLine:=by rw[zCA]; decide
 have one:1<=sizeLine:=by rw[zCA]; decide
 obtain⟨n1,i1,a1⟩:=Jv (ns:=C) (i:=c/10%3) (by lia) (by lia);obtain⟨n2,i2,a2⟩:=Jv (ns:=B) (i:=c/30%3) (by lia) (by lia);have o1:=nC n1 i1;have o2:=nB n2 i2;refine (vE rfl (vE rfl (vF rfl rfl ⟨⟨by decide,by decide⟩,_,_,rfl,rfl,(by show (0:Int)<3; decide),vI rfl rfl (SqL.of hca) a1 ⟨two,fun t1 k1=>?_⟩⟩)));refine Dp [some (.int c),some (.ref th),some (.ref ca),some (.int u),some (.ref t1),none,none,none,none] rfl ?_;have s1:=An k1 (.tup [V.str "cause",.str n1]);have h1:upd H t1 (.tup [V.str "cause",.str n1]) t1=some (.tup [V.str "cause",.str n1]):=Ab;generalize upd H t1 (.tup [V.str "cause",.str n1])=H1 at s1 h1;refine (vE rfl (vE rfl (vF rfl rfl ⟨⟨by decide,by decide⟩,_,_,rfl,rfl,(by show (0:Int)<3; decide),vI rfl rfl (SqL.of (s1 _ _ hth)) a2 ⟨two,fun t2 k2=>?_⟩⟩)));refine Dp [some (.int c),some (.ref th),some (.ref ca),some (.int u),some (.ref t1),some (.ref t2),none,none,none] rfl ?_;have s2:=An k2 (.tup [V.str "thing",.str n2]);have h2:upd H1 t2 (.tup [V.str "thing",.str n2]) t2=some (.tup [V.str "thing",.str n2]):=Ab;generalize upd H1 t2 (.tup [V.str "thing",.str n2])=H2 at s2 h2;have d90:=md (a:=c/90) (b:=39) (by decide);refine (vE rfl (vF rfl rfl ⟨⟨by decide,by decide⟩,_,_,rfl,rfl,(by show (0:Int)<39; decide),_,rfl,_,u,rfl,d90.1,uo,fun m m0 m1=>⟨two,fun t3 k3=>?_⟩⟩));refine Dp [some (.int c),some (.ref th),some (.ref ca),some (.int u),some (.ref t1),some (.ref t2),some (.ref t3),none,none] rfl ?_;have s3:=An k3 (.tup [V.str "over",.int m]);have h3:upd H2 t3 (.tup [V.str "over",.int m]) t3=some (.tup [V.str "over",.int m]):=Ab
 generalize upd H2 t3 (.tup [V.str "over",.int m])=H3 at s3 h3;refine (vE rfl (vF rfl rfl ⟨⟨by decide,by decide⟩,_,_,rfl,rfl,(by show (0:Int)<3; decide),_,_,rfl,rfl,.inl ⟨by decide,by decide⟩,vE rfl (vF rfl rfl ⟨⟨by decide,by decide⟩,_,_,rfl,rfl,(by show (0:Int)<4; decide),_,_,rfl,rfl,?_⟩)⟩));refine Na 0 733 ⟨by lia,by lia⟩ fun fi f0 f1=>?_;have d42:=md (a:=c/42120) (b:=400) (by decide);refine (vE rfl (vE rfl (vE rfl (vE rfl (vE rfl (vE rfl (vF rfl rfl ⟨⟨by decide,by decide⟩,_,_,rfl,rfl,(by show (0:Int)<400; decide),_,_,rfl,rfl,three,fun t4 k4=>?_⟩)))))));generalize c/42120%400=e4 at d42;have s4:=An k4 (.tup [V.str "days",.int fi,.int (fi+e4)]);have h4:upd H3 t4 (.tup [V.str "days",.int fi,.int (fi+e4)]) t4=some (.tup [V.str "days",.int fi,.int (fi+e4)]):=Ab;generalize upd H3 t4 (.tup [V.str "days",.int fi,.int (fi+e4)])=H4 at s4 h4;refine (vE rfl ⟨two,fun t5 k5=>?_⟩);have s5:=An k5 (.tup [V.str "not",.ref t1]);have h5:upd H4 t5 (.tup [V.str "not",.ref t1]) t5=some (.tup [V.str "not",.ref t1]):=Ab;generalize upd H4 t5 (.tup [V.str "not",.ref t1])=H5 at s5 h5;refine⟨five,fun l1 j1=>?_⟩;have s6:=An j1 (.lst [V.ref t1,.ref t2,.ref t3,.ref t4,.ref t5]);have g6:upd H5 l1 (.lst [V.ref t1,.ref t2,.ref t3,.ref t4,.ref t5]) l1=some (.lst [V.ref t1,.ref t2,.ref t3,.ref t4,.ref t5]):=Ab;generalize upd H5 l1 (.lst [V.ref t1,.ref t2,.ref t3,.ref t4,.ref t5])=H6 at s6 g6;refine Dp [some (.int c),some (.ref th),some (.ref ca),some (.int u),some (.ref t1),some (.ref t2),some (.ref t3),some (.int fi),some (.ref l1)] rfl ?_
 refine (vE rfl (vE rfl ⟨two,fun t6 k6=>?_⟩));have s7:=An k6 (.tup [V.str "not",.ref t3]);have h6:upd H6 t6 (.tup [V.str "not",.ref t3]) t6=some (.tup [V.str "not",.ref t3]):=Ab;generalize upd H6 t6 (.tup [V.str "not",.ref t3])=H7 at s7 h6;refine (vE rfl ⟨two,fun l2 j2=>?_⟩);have s8:=An j2 (.lst [V.ref t6,.ref t2]);have g8:upd H7 l2 (.lst [V.ref t6,.ref t2]) l2=some (.lst [V.ref t6,.ref t2]):=Ab;generalize upd H7 l2 (.lst [V.ref t6,.ref t2])=H8 at s8 g8;refine⟨two,fun t7 k7=>?_⟩;have s9:=An k7 (.tup [V.str "all",.ref l2]);have h7:upd H8 t7 (.tup [V.str "all",.ref l2]) t7=some (.tup [V.str "all",.ref l2]):=Ab;generalize upd H8 t7 (.tup [V.str "all",.ref l2])=H9 at s9 h7;refine (vE rfl (vE rfl (vE rfl ⟨three,fun l3 j3=>?_⟩)));have s10:=An j3 (.lst [V.ref t1,.ref t2,.ref t3]);have g10:upd H9 l3 (.lst [V.ref t1,.ref t2,.ref t3]) l3=some (.lst [V.ref t1,.ref t2,.ref t3]):=Ab;generalize upd H9 l3 (.lst [V.ref t1,.ref t2,.ref t3])=H10 at s10 g10;refine⟨two,fun t8 k8=>?_⟩;have s11:=An k8 (.tup [V.str "some",.ref l3]);have h8:upd H10 t8 (.tup [V.str "some",.ref l3]) t8=some (.tup [V.str "some",.ref l3]):=Ab;generalize upd H10 t8 (.tup [V.str "some",.ref l3])=H11 at s11 h8;refine⟨two,fun l4 j4=>?_⟩;have s12:=An j4 (.lst [V.ref t7,.ref t8]);have g12:upd H11 l4 (.lst [V.ref t7,.ref t8]) l4=some (.lst [V.ref t7,.ref t8]):=Ab;generalize upd H11 l4 (.lst [V.ref t7,.ref t8])=H12 at s12 g12;have s12':=s7.trans (s8.trans (s9.trans (s10.trans (s11.trans s12))));refine⟨l1,l4,_,_,rfl,rfl,s12' _ _ g6,g12,Ci (by show 7<=1000; decide),fun l5 j5=>?_⟩
 have s13:=An j5 (.lst ([V.ref t1,.ref t2,.ref t3,.ref t4,.ref t5]++[V.ref t7,.ref t8]));have g13:upd H12 l5 (.lst ([V.ref t1,.ref t2,.ref t3,.ref t4,.ref t5]++[V.ref t7,.ref t8])) l5=some (.lst [V.ref t1,.ref t2,.ref t3,.ref t4,.ref t5,.ref t7,.ref t8]):=Ab;generalize upd H12 l5 (.lst ([V.ref t1,.ref t2,.ref t3,.ref t4,.ref t5]++[V.ref t7,.ref t8]))=H13 at s13 g13;refine Dp [some (.int c),some (.ref th),some (.ref ca),some (.int u),some (.ref t1),some (.ref t2),some (.ref t3),some (.int fi),some (.ref l5)] rfl ?_;have S13:=s12'.trans s13;have S6:=s4.trans (s5.trans s6);have z3:=S13 _ _ (S6 _ _ h3);have z2:=S13 _ _ (S6 _ _ (s3 _ _ h2));have z1:=S13 _ _ (S6 _ _ (s3 _ _ (s2 _ _ h1)));have SS:Same H H13:=s1.trans (s2.trans (s3.trans (S6.trans S13)));have a3:=s1.trans (s2.trans s3);have a4:=a3.trans s4;have a6:=a3.trans S6;have a7:=a6.trans s7;have a8:=a7.trans s8;have a9:=a8.trans s9;have a10:=a9.trans s10;have T1:TrAt (Nw H H13) (.ref t1) (.at (.cau n1)):=by unfold TrAt; exact⟨t1,rfl,Nw.of k1 z1⟩
 have T2:TrAt (Nw H H13) (.ref t2) (.at (.thi n2)):=by unfold TrAt; exact⟨t2,rfl,Nw.of (s1.free k2) z2⟩
 have T3:TrAt (Nw H H13) (.ref t3) (.at (.ovr m)):=by unfold TrAt; exact⟨t3,rfl,Nw.of ((s1.trans s2).free k3) z3⟩
 have T4:TrAt (Nw H H13) (.ref t4) (.at (.day fi (fi+e4))):=by unfold TrAt; exact⟨t4,rfl,Nw.of (a3.free k4) (S13 _ _ (s6 _ _ (s5 _ _ h4)))⟩
 have T5:TrAt (Nw H H13) (.ref t5) (.no (.at (.cau n1))):=by unfold TrAt; exact⟨t5,_,rfl,Nw.of (a4.free k5) (S13 _ _ (s6 _ _ h5)),T1⟩
 have T6:TrAt (Nw H H13) (.ref t6) (.no (.at (.ovr m))):=by unfold TrAt; exact⟨t6,_,rfl,Nw.of (a6.free k6) (s13 _ _ (s12 _ _ (s11 _ _ (s10 _ _ (s9 _ _ (s8 _ _ h6)))))),T3⟩
 have T7:TrAt (Nw H H13) (.ref t7) (.al [.no (.at (.ovr m)),.at (.thi n2)]):=by
  unfold TrAt;refine⟨t7,l2,_,rfl,Nw.of (a8.free k7) (s13 _ _ (s12 _ _ (s11 _ _ (s10 _ _ h7)))),Nw.of (a7.free j2) (s13 _ _ (s12 _ _ (s11 _ _ (s10 _ _ (s9 _ _ g8))))),?_⟩;unfold TrsAt;refine⟨T6,?_⟩;unfold TrsAt;refine⟨T2,?_⟩;unfold TrsAt;trivial
 have T8:TrAt (Nw H H13) (.ref t8) (.so [.at (.cau n1),.at (.thi n2),.at (.ovr m)]):=by
  unfold TrAt;refine⟨t8,l3,_,rfl,Nw.of (a10.free k8) (s13 _ _ (s12 _ _ h8)),Nw.of (a9.free j3) (s13 _ _ (s12 _ _ (s11 _ _ g10))),?_⟩;unfold TrsAt;refine⟨T1,?_⟩;unfold TrsAt;refine⟨T2,?_⟩;unfold TrsAt;refine⟨T3,?_⟩;unfold TrsAt;trivial
 have om:0<=m/\m<=999999999999:=⟨m0,by lia⟩;have K1:Mx Ot (.at (.cau n1)):=by unfold Mx; exact o1
 have K2:Mx Ot (.at (.thi n2)):=by unfold Mx; exact o2
 have K3:Mx Ot (.at (.ovr m)):=by unfold Mx; exact om
 have K4:Mx Ot (.at (.day fi (fi+e4))):=by unfold Mx; exact⟨f0,by lia,by lia⟩
 have K5:Mx Ot (.no (.at (.cau n1))):=by unfold Mx; exact K1
 have K6:Mx Ot (.no (.at (.ovr m))):=by unfold Mx; exact K3
 have K7:Mx Ot (.al [.no (.at (.ovr m)),.at (.thi n2)]):=by
  unfold Mx;refine⟨by simp,by simp,W4 fun t ht=>?_⟩;simp at ht;rcases ht with rfl | rfl
  ·exact K6
  ·exact K2
 have K8:Mx Ot (.so [.at (.cau n1),.at (.thi n2),.at (.ovr m)]):=by
  unfold Mx;refine⟨by simp,by simp,W4 fun t ht=>?_⟩;simp at ht;rcases ht with rfl | rfl | rfl
  ·exact K1
  ·exact K2
  ·exact K3
 refine (vE rfl (vF rfl rfl ⟨(by show (0:Int)<10; decide),_,_,rfl,rfl,vE rfl ?_⟩));by_cases c10:c%10>2
 ·refine dT c10 ?_
  have cs:c%10-3=0\/c%10-3=1\/c%10-3=2\/c%10-3=3\/c%10-3=4\/c%10-3=5\/c%10-3=6:=by lia
  obtain⟨v,t,ev,tv,hv,kv⟩:∃ v t,Me [V.ref t1,.ref t2,.ref t3,.ref t4,.ref t5,.ref t7,.ref t8] (c%10-3)=some v/\TrAt (Nw H H13) v t/\Ow t<3/\Mx Ot t:=by
   rcases cs with e | e | e | e | e | e | e <;> rw[e]
   ·exact⟨_,_,rfl,T1,by simp [Ow,hgts],K1⟩
   ·exact⟨_,_,rfl,T2,by simp [Ow,hgts],K2⟩
   ·exact⟨_,_,rfl,T3,by simp [Ow,hgts],K3⟩
   ·exact⟨_,_,rfl,T4,by simp [Ow,hgts],K4⟩
   ·exact⟨_,_,rfl,T5,by simp [Ow,hgts],K5⟩
   ·exact⟨_,_,rfl,T7,by simp [Ow,hgts],K7⟩
   ·exact⟨_,_,rfl,T8,by simp [Ow,hgts],K8⟩
  exact (vE rfl (vE rfl (vF rfl rfl ⟨(by show (0:Int)<10; decide),_,_,rfl,rfl,vI rfl rfl (SqL.of g13) ev (q v t _ SS tv hv kv)⟩)))
 ·refine dF c10 ⟨one,fun t9 k9=>?_⟩
  exact q _ (.at .alw) _ (SS.trans (An k9 _)) (by unfold TrAt; exact⟨t9,rfl,Nw.of (SS.free k9) Ab⟩) (by decide) (by unfold Mx; trivial)
theorem QO:(10:Int)^(12:Int).toNat=1000000000000:=by ac_nf
theorem e6:(10:Int)^(6:Int).toNat=1000000:=by ac_nf
theorem e9:(10:Int)^(9:Int).toNat=1000000000:=by ac_nf
def J1:Sp:=fun vs H Q _=>∃ c u:Int,∃ w A B C D,vs=[.int c,.ref w,.int u]/\Jh u/\WorldAt H w A B C D/\PF A B C D/\∀ t z H',Same H H'->H t=none->H' t=some (.tup (LF.vs z))->0<z.ct->Q (.ref t) H'
theorem L6:Str.ofString "." = tx [46]:=by ac_nf
theorem P4 {ns:List Str} (N:Nms ns) {z:Str} (h:z∈ns):z.length<=8:=(N.ok z h).2.1
theorem Wt:Bb ["_law_cell_here", "_law_world_here", "_law_unit_here", "_law_drawn", "_law_number", "_law_cents", "_law_date", "_law_day", "_law_deep", "_law_events", "_law_thing"] ["_law_cell_here", "_law_world_here", "_law_unit_here"] (As Jy):=by injections
theorem Xk {f:Addr} {fd:zCC} (F:Fun K "_law_loss" "_law_loss" Jy f fd) (T:Txt K mg):FnOk P w K mg base Cu 1 f fd ["_law_cell_here", "_law_world_here", "_law_unit_here"] J1:=by
 have sc:=Wt;bv_omega
 ·obtain⟨_,_,_,_,_,_,_,rfl,_⟩:=h
  rfl
 obtain⟨c,u,wl,A,B,C,D,rfl,⟨u1,u2⟩,wa,W,q⟩:=h;refine⟨_,(Ad (Bf (i:=3) sc.nd rfl (Or.inl rfl) (Ay Bu (Ay Eb (pv 0) Ak) Ak))
   (Ad (Bf (i:=4) sc.nd rfl (Or.inl rfl) (Ay Bu (Ay Bw (pv 3) Ak) Ak))
   (Ad (Bf (i:=5) sc.nd rfl (Or.inl rfl) (Ay Cd (Ay Cd Ak (Ay Eb (Ay Bu (pv 3) Ak) (pv 2))) (Ay Bu (Ay Bw (pv 3) Ak) Ak)))
   (Ad (Bf (i:=6) sc.nd rfl (Or.inl rfl) (Ay Bu (Ay Bw (pv 3) Ak) Ak))
   (Ad (Bf (i:=7) sc.nd rfl (Or.inl rfl) (Ay Cd (Ay Eb Ak (Ay Bw (pv 6) Ak)) (Bh Bo (Cg (Aa Ak (Aa Ak (Aa Ak (Aa Ak Af))))) (Ay Bu (pv 6) Ak) (fun _ _=>rfl))))
   (Ad (Bv (Bk Db (Ay Bu (Ay Bw (pv 3) Ak) Ak) Ak (Bm _))
    (Ad (Bf (i:=5) sc.nd rfl (Or.inl rfl) (Ay Cd Ak (Ay Bu (pv 0) (Ay Ly (Ay Rb Ak Ak) Ak))))
   (Ad (Bf (i:=7) sc.nd rfl (Or.inl rfl) (Ay Bu (pv 0) (Ay Cd (Ay Rb Ak Ak) Ak)))
   (Ao (Bf (i:=4) sc.nd rfl (Or.inl rfl) (Ay Bu (pv 0) (Ay Cd (Ay Rb Ak Ak) Ak))))))
    Bl)
   (Ad (Bf (i:=8) sc.nd rfl (Or.inl rfl) (Ay Gm (Ay Gm (Bh Bo (Bh Bo (pv 1) Ak (fun _ _=>rfl)) Ak (fun _ _=>rfl)) Ca) (Bh Bo (Bh Bo (pv 1) Ak (fun _ _=>rfl)) Ak (fun _ _=>rfl))))
   (Ad (Bf (i:=9) sc.nd rfl (Or.inl rfl) (Ay Hv (Bh Bo (pv 1) Ak (fun _ _=>rfl)) (Cg (Aa (Ay Gm (Ay Gm (pv 8) Ca) (Bh Bo (Bh Bo (pv 1) Ak (fun _ _=>rfl)) Ak (fun _ _=>rfl))) Af))))
   (Ad (Bf (i:=10) sc.nd rfl (Or.inl rfl) (Bh Bo (Bh Bo (pv 1) Ak (fun _ _=>rfl)) (Ay Bu (Ay Bw (pv 3) Ak) Ak) (fun _ _=>rfl)))
   (Ao (Be (Cc (Aa (pv 4) (Aa (pv 7) (Aa (Bh Bo (pv 9) (Ay Bu (Ay Bw (pv 3) Ak) Ak) (fun _ _=>rfl)) (Aa (pv 10) (Aa (Bh Bo (Bh Bo (pv 1) Ak (fun _ _=>rfl)) (Ay Bu (Ay Bw (pv 3) Ak) Ak) (fun _ _=>rfl)) (Aa (pv 5) Af)))))))))))))))))),?_⟩
 have one:1<=sizeLine:=by rw[zCA]; decide
 obtain⟨la,lb,lc,ld,hw,ha,hb,hc,hd⟩:=wa;have eA:=W.la;have eB:=W.lb;have eC:=W.lc;refine (vE rfl (vF rfl rfl ⟨.inr ⟨by decide,by decide⟩,vF rfl rfl ⟨(by show (0:Int)<2147483647; decide),?_⟩⟩));refine Na 0 2147483646 (md (by decide)) fun r r0 r1=>?_;refine (vE rfl (vF rfl rfl ⟨⟨by decide,by decide⟩,_,_,rfl,rfl,(by show (0:Int)<5; decide),?_⟩));refine Na 0 4 (md (by decide)) fun nu nu0 nu4=>?_;have m25:=md (a:=r) (b:=25) (by decide);have p0:0<=r%25*u:=Int.mul_nonneg m25.1 (by lia);refine (vE rfl (vF rfl rfl ⟨(by show (0:Int)<25; decide),_,rfl,vF rfl rfl ⟨.inr ⟨by lia,by lia⟩,vF rfl rfl (vE rfl (vF rfl rfl ⟨⟨by decide,by decide⟩,_,_,rfl,rfl,(by show (0:Int)<4; decide),_,_,rfl,rfl,?_⟩))⟩⟩));have m4:=md (a:=r/25) (b:=4) (by decide);obtain⟨ce,ece,ce0⟩:∃ ce:Int,ce=1+r%25*u+r/25%4/\0<ce:=⟨_,rfl,by lia⟩;refine Dp [some (.int c),some (.ref wl),some (.int u),some (.int r),some (.int nu),some (.int ce),none,none,none,none,none] (by rw[ece]; rfl) ?_;refine (vE rfl (vF rfl rfl ⟨⟨by decide,by decide⟩,_,_,rfl,rfl,(by show (0:Int)<12; decide),?_⟩));refine Na 0 11 (md (by decide)) fun dt dt0 dt1=>?_;refine (vE rfl (vF rfl rfl ⟨⟨by decide,by decide⟩,_,_,rfl,rfl,.inl ⟨by decide,by decide⟩,Ci (by show 4<=1000; decide),fun l1 k1=>?_⟩));have f4:dt%4=0\/dt%4=1\/dt%4=2\/dt%4=3:=by lia
 obtain⟨dd,hdd⟩:∃ dd:Int,Me [V.int 0,.int 1,.int 2,.int 364] (dt%4)=some (.int dd):=by
  rcases f4 with e | e | e | e <;> rw[e]
  ·exact⟨_,rfl⟩
  ·exact⟨_,rfl⟩
  ·exact⟨_,rfl⟩
  ·exact⟨_,rfl⟩
 have s1:=An k1 (.lst [V.int 0,.int 1,.int 2,.int 364]);refine (vE rfl (vF rfl rfl ⟨(by show (0:Int)<4; decide),vI rfl rfl (SqL.of Ab) hdd (vF rfl rfl ?_)⟩));generalize upd H l1 (.lst [V.int 0,.int 1,.int 2,.int 364])=H1 at s1;obtain⟨day,eday⟩:∃ day:Int,day=365*(dt/4)+dd:=⟨_,rfl⟩;refine Dp [some (.int c),some (.ref wl),some (.int u),some (.int r),some (.int nu),some (.int ce),some (.int dt),some (.int day),none,none,none] (by rw[eday]; rfl) ?_;refine (vE rfl (vF rfl rfl ⟨⟨by decide,by decide⟩,_,_,rfl,rfl,(by show (0:Int)<9; decide),rfl,vE rfl ?_⟩));refine IT (fun σ H'=>(∃ n' ce' day':Int,σ=[some (.int c),some (.ref wl),some (.int u),some (.int r),some (.int n'),some (.int ce'),some (.int dt),some (.int day'),none,none,none]/\0<ce')/\H'=H1) (fun _ N R=>?_) (fun _ N R=>R _ _ ⟨⟨_,_,_,rfl,ce0⟩,rfl⟩) ?_
 ·refine (vE rfl (vF rfl rfl ⟨⟨by decide,by decide,by decide⟩,_,_,rfl,rfl,vF rfl rfl ⟨(by show (0:Int)<(10:Int)^(12:Int).toNat-1; rw[QO]; decide),_,_,rfl,rfl,?_⟩⟩))
  refine (vE rfl (vF rfl rfl ⟨⟨by decide,by decide,by decide⟩,_,_,rfl,rfl,vF rfl rfl ⟨(by show (0:Int)<(10:Int)^(6:Int).toNat+1; rw[e6]; decide),?_⟩⟩));refine (vE rfl (vF rfl rfl ⟨⟨by decide,by decide,by decide⟩,_,_,rfl,rfl,vF rfl rfl ⟨(by show (0:Int)<(10:Int)^(9:Int).toNat+1; rw[e9]; decide),R _ _ ⟨⟨_,_,_,rfl,?_⟩,rfl⟩⟩⟩));have:=Int.emod_nonneg c (b:=(10:Int)^(12:Int).toNat-1) (by rw[QO]; decide);show 0<1+c%((10:Int)^(12:Int).toNat-1)
  lia
 rintro σ H' ⟨⟨n',ce',day',rfl,ce0'⟩,rfl⟩;have hw1:=s1 _ _ hw;have ha1:=s1 _ _ ha;obtain⟨x0,i0,y0⟩:=Jv (ns:=A) (i:=0) (by lia) (by lia);obtain⟨x1,i1,y1⟩:=Jv (ns:=A) (i:=1) (by lia) (by lia);obtain⟨x2,i2,y2⟩:=Jv (ns:=A) (i:=2) (by lia) (by lia);have L0:=P4 W.a i0;have L1:=P4 W.a i1;have L2':=P4 W.a i2;have ld1:(Str.ofString ".").length=1:=by ac_nf
 have at0:Me [V.ref la,.ref lb,.ref lc,.ref ld] 0=some (.ref la):=rfl;have at1:Me [V.ref la,.ref lb,.ref lc,.ref ld] 1=some (.ref lb):=rfl;have at2:Me [V.ref la,.ref lb,.ref lc,.ref ld] 2=some (.ref lc):=rfl;have tx0:∀ x:Str,∃ l,x=tx l:=fun x=>⟨_,(FL x).symm⟩;obtain⟨l0,rfl⟩:=tx0 x0;obtain⟨l1',rfl⟩:=tx0 x1;obtain⟨l2,rfl⟩:=tx0 x2;rw[Ft] at L0 L1 L2';refine (vE rfl (vI rfl rfl (SqL.of hw1) at0 (vI rfl rfl (SqL.of ha1) y0 (vF rfl rfl ⟨by rw[ld1,Ft]; exact Ci (by lia),_,rfl,vI rfl rfl (SqL.of hw1) at0 (vI rfl rfl (SqL.of ha1) y1 (vF rfl rfl ⟨?_,?_⟩))⟩))))
 ·rw[L6,Re,Ft,Ft,zAm]
  exact Ci (by show l0.length+1+l1'.length<=1000; lia)
 refine Dp [some (.int c),some (.ref wl),some (.int u),some (.int r),some (.int n'),some (.int ce'),some (.int dt),some (.int day'),some (.str (tx (l0++[46]++l1'))),none,none] (by exact congrArg (fun z:Str=>[some (V.int c),some (V.ref wl),some (V.int u),some (V.int r),some (V.int n'),some (V.int ce'),some (V.int dt),some (V.int day'),some (V.str z),none,none]) (by rw[L6,Re,Re])) ?_;refine (vE rfl (vI rfl rfl (SqL.of hw1) at0 (vE rfl (vF rfl rfl ⟨?_,_,rfl,vI rfl rfl (SqL.of hw1) at0 (vI rfl rfl (SqL.of ha1) y2 (vF rfl rfl ⟨?_,one,fun e2 k2=>?_⟩))⟩))))
 ·rw[ld1,Ft,zAm,zAm]
  exact Ci (by show l0.length+1+l1'.length+1<=1000; lia)
 ·rw[L6,Re,Ft,Ft,zAm,zAm,zAm]
  exact Ci (by show l0.length+1+l1'.length+1+l2.length<=1000; lia)
 have s2:=An k2 (.lst [V.str (tx (l0++[46]++l1')++Str.ofString "." ++ tx l2)]);refine⟨la,e2,_,_,rfl,rfl,s2 _ _ ha1,Ab,by rw[zAb,eA]; exact Ci (by show 3+1<=1000; decide),fun ev k3=>?_⟩;have s3:=s2.trans (An k3 (.lst (A.map V.str++[V.str (tx (l0++[46]++l1')++Str.ofString "." ++ tx l2)])));obtain⟨dp,edp⟩:∃ dp:Str,dp=tx (l0++[46]++l1')++Str.ofString "." ++ tx l2:=⟨_,rfl⟩;have h3:upd (upd H' e2 (.lst [V.str (tx (l0++[46]++l1')++Str.ofString "." ++ tx l2)])) ev (.lst (A.map V.str++[V.str (tx (l0++[46]++l1')++Str.ofString "." ++ tx l2)])) ev=some (.lst ((A++[dp]).map V.str)):=by
  rw[Ab,zAr,edp];rfl
 generalize upd (upd H' e2 (.lst [V.str (tx (l0++[46]++l1')++Str.ofString "." ++ tx l2)])) ev (.lst (A.map V.str++[V.str (tx (l0++[46]++l1')++Str.ofString "." ++ tx l2)]))=H3 at s3 h3;refine Dp [some (.int c),some (.ref wl),some (.int u),some (.int r),some (.int n'),some (.int ce'),some (.int dt),some (.int day'),some (.str (tx (l0++[46]++l1'))),some (.ref ev),none] rfl ?_;have S3:=s1.trans s3;have hw3:=S3 _ _ hw;obtain⟨xb,_,yb⟩:=Jv (ns:=B) (i:=r/400%3) (by lia) (by lia);obtain⟨xc,_,yc⟩:=Jv (ns:=C) (i:=r/1200%3) (by lia) (by lia);obtain⟨xe,_,ye⟩:=Jv (ns:=A++[dp]) (i:=r/100%4) (by lia) (by rw[zAm,eA]; show r/100%4<((3+1:Nat):Int); lia);refine (vE rfl (vI rfl rfl (SqL.of hw3) at1 (vE rfl (vF rfl rfl ⟨⟨by decide,by decide⟩,_,_,rfl,rfl,(by show (0:Int)<3; decide),vI rfl rfl (SqL.of (S3 _ _ hb)) yb ?_⟩))));refine Dp [some (.int c),some (.ref wl),some (.int u),some (.int r),some (.int n'),some (.int ce'),some (.int dt),some (.int day'),some (.str (tx (l0++[46]++l1'))),some (.ref ev),some (.str xb)] rfl ?_;refine (vE rfl (vE rfl (vE rfl (vE rfl (vF rfl rfl ⟨⟨by decide,by decide⟩,_,_,rfl,rfl,(by show (0:Int)<4; decide),vI rfl rfl (SqL.of h3) ye (vE rfl (vE rfl (vI rfl rfl (SqL.of hw3) at2 (vE rfl (vF rfl rfl ⟨⟨by decide,by decide⟩,_,_,rfl,rfl,(by show (0:Int)<3; decide),vI rfl rfl (SqL.of (S3 _ _ hc)) yc (vE rfl ⟨Ci (by show 6<=1000; decide),fun t nt=>?_⟩)⟩)))))⟩)))));exact q t ⟨n',day',xe,xb,xc,ce'⟩ _ (S3.trans (An nt _)) (S3.free nt) Ab ce0'
end
def LfsAt (H:Hp):List V->List LF->Prop
 | [],[]=>True
 | x::xs,z::zs=>(∃ t,x = .ref t/\H t=some (.tup z.vs))/\LfsAt H xs zs
 | _,_=>False
theorem LfsAt.len {H:Hp}:∀ {xs:List V} {zs:List LF},LfsAt H xs zs->xs.length=zs.length
 | [],[],_=>rfl
 | [],_::_,h=>h.elim
 | _::_,[],h=>h.elim
 | x::xs,p::ps,h=>by rw[zAf,zAf,LfsAt.len h.2]
theorem LfsAt.mono {H H':Hp} (s:HL H H'):∀ {xs:List V} {zs:List LF},LfsAt H xs zs->LfsAt H' xs zs
 | [],[],_=>trivial
 | [],_::_,h=>h.elim
 | _::_,[],h=>h.elim
 | x::xs,p::ps,⟨⟨t,e,h⟩,r⟩=>⟨⟨t,e,s _ _ h⟩,LfsAt.mono s r⟩
theorem LfsAt.snoc {H:Hp}:∀ {xs:List V} {zs:List LF} {t:Addr} {z:LF},LfsAt H xs zs->H t=some (.tup z.vs)->LfsAt H (xs++[.ref t]) (zs++[z])
 | [],[],t,_,_,h=>⟨⟨t,rfl,h⟩,trivial⟩
 | [],_::_,_,_,r,_=>r.elim
 | _::_,[],_,_,r,_=>r.elim
 | x::xs,p::ps,_,_,⟨z,r⟩,h=>⟨z,LfsAt.snoc r h⟩
theorem LfsAt.get {H:Hp}:∀ {xs:List V} {zs:List LF} {i:Nat} {x:V},LfsAt H xs zs->xs[i]?=some x->∃ t z,zs[i]?=some z/\x = .ref t/\H t=some (.tup (LF.vs z))
 | [],[],_,_,_,e=>by simp at e
 | [],_::_,_,_,h,_=>h.elim
 | _::_,[],_,_,h,_=>h.elim
 | x::xs,p::ps,0,y,⟨⟨t,e,h⟩,r⟩,q=>by
  simp at q;subst q;exact⟨t,p,rfl,e,h⟩
 | x::xs,p::ps,i+1,y,⟨_,r⟩,q=>by
  obtain⟨t,p',h1,h2⟩:=LfsAt.get (i:=i) r (by simpa using q);exact⟨t,p',by simpa using h1,h2⟩
theorem AX {ns:List Int} (m:Nat):∃ ms:List Int,Op (ns.map V.int) none (some (m:Int))=ms.map V.int/\ms.length<=m:=by
 refine⟨ns.take (min m (ns.map V.int).length),?_,by rw[zAx]; lia⟩;unfold Op;rw[HT.sIx_nat,HT.sIx_none,List.drop_zero,Nat.sub_zero,List.map_take]
def Rx (K:zAa):Sp:=fun vs H Q _=>∃ a ns,∃ m:Nat,∃ u:Int,∃ w A B C D,vs=[.ref a,.int (m:Int),.ref w,.int u]/\SqL K H a (List.map V.int ns)/\ns.length<=63/\m<=63/\Jh u/\WorldAt H w A B C D/\PF A B C D /\
 ∀ r xs zs H',Same H H'->H r=none->H' r=some (.lst xs)->LfsAt H' xs zs->zs.length<=m->(∀ z∈zs,0<z.ct)->Q (.ref r) H'
theorem WorldAt.same {H H':Hp} {w:Addr} {A B C D:List Str} (h:WorldAt H w A B C D) (s:Same H H'):WorldAt H' w A B C D:=by
 obtain⟨a,b,c,d,h0,h1,h2,h3,h4⟩:=h;exact⟨a,b,c,d,s _ _ h0,s _ _ h1,s _ _ h2,s _ _ h3,s _ _ h4⟩
section
variable {P:Program} {w:World} {K:zAa} {mg:Str->Option Value} {base:Heap}
theorem Td:Bb ["_law_script", "_law_many", "_law_world_here", "_law_unit_here"] ["_law_script", "_law_many", "_law_world_here", "_law_unit_here"] (As Hk):=by injections
theorem Sz {f:Addr} {fd:zCC} (F:Fun K "_law_losses" "_law_losses" Hk f fd) (T:Txt K mg) (C_law_loss:Cn P w K mg base 1 "_law_loss" ["_law_cell_here", "_law_world_here", "_law_unit_here"] J1):FnOk P w K mg base Cu 2 f fd ["_law_script", "_law_many", "_law_world_here", "_law_unit_here"] (Rx K):=by
 have sc:=Td;bv_omega
 ·obtain⟨_,_,_,_,_,_,_,_,_,rfl,_⟩:=h
  rfl
 obtain⟨a,ns,m,u,wl,A,B,C,D,rfl,ha,l63,m63,uo,wa,W,q⟩:=h;refine⟨_,(Ao (Be (Dj (NC:=["_law_cell_here", "_law_world_here", "_law_unit_here"]) (own:=["_law_cell_here"]) (cs:=["_law_world_here", "_law_unit_here"]) (ix:=[2,3]) rfl (CompScope.of rfl) rfl ⟨⟨rfl,.inl rfl,rfl⟩,⟨⟨rfl,.inl rfl,rfl⟩,trivial⟩⟩ (Cb (Ep Fz (Ay Hv (JE (pv 0) (E4 Th Ak)) (Cg (Aa Ak Af))) Fx (Fy (pv 1)))) (fun _ _ _=>(Az (i:=0) (show (["_law_cell_here", "_law_world_here", "_law_unit_here"]:List Str).Nodup from by ac_nf) rfl (Or.inl rfl))) (fun _ _ _=>Dd) (fun _ _ _=>(Ax C_law_loss (hr.mono (by decide)) rfl (Aa (pv 0) (Aa (pv 1) (Aa (pv 2) Af)))))))),?_⟩;have one:1<=sizeLine:=by rw[zCA]; decide
 refine (vE rfl (vE rfl ⟨rfl,a,_,rfl,ha,fun l1 k1=>⟨one,fun l2 k2=>?_⟩⟩));have s1:=An k1 (.lst (ns.map V.int).reverse);have h1:upd H l1 (.lst (ns.map V.int).reverse) l1=some (.lst (ns.map V.int).reverse):=Ab;generalize upd H l1 (.lst (ns.map V.int).reverse)=H1 at s1 h1 k2;have s2:=An k2 (.lst [V.int 0]);have h2:upd H1 l2 (.lst [V.int 0]) l2=some (.lst [V.int 0]):=Ab;generalize upd H1 l2 (.lst [V.int 0])=H2 at s2 h2;refine⟨l1,l2,_,_,rfl,rfl,s2 _ _ h1,h2,by rw[List.length_reverse,zAb]; exact Ci (by show ns.length+1<=1000; lia),fun l3 k3=>?_⟩;have e3:(ns.map V.int).reverse++[V.int 0]=(ns.reverse++[0]).map V.int:=by rw[zAr,List.map_reverse]; rfl
 rw[e3];have s3:=An k3 (.lst ((ns.reverse++[0]).map V.int));have h3:upd H2 l3 (.lst ((ns.reverse++[0]).map V.int)) l3=some (.lst ((ns.reverse++[0]).map V.int)):=Ab;generalize upd H2 l3 (.lst ((ns.reverse++[0]).map V.int))=H3 at s3 h3;refine (vE rfl (vE rfl ⟨l3,_,rfl,SqL.of h3,fun l4 k4=>?_⟩));obtain⟨ms,ems,lms⟩:=AX (ns:=ns.reverse++[0]) m;rw[ems];have s4:=An k4 (.lst (ms.map V.int));have h4:upd H3 l4 (.lst (ms.map V.int)) l4=some (.lst (ms.map V.int)):=Ab;generalize upd H3 l4 (.lst (ms.map V.int))=H4 at s4 h4;have S4:=s1.trans (s2.trans (s3.trans s4));have lm:(ms.map V.int).length=ms.length:=zAb _;refine⟨l4,rfl,⟨_,SqL.of h4⟩,fun r nr=>?_⟩;refine Ck (K:=K) (a:=l4) (xs:=ms.map V.int) (fun i ys H5=>(∃ zs,LfsAt H5 ys zs/\zs.length=i/\∀ z∈zs,0<z.ct)/\H5 r=some (.lst ys)/\Same H4 H5) ⟨⟨[],trivial,rfl,fun _ y=>nomatch y⟩,Ab,An nr _⟩
  (fun i ys H5 _ ⟨⟨zs,x1,x2,_⟩,x4,x5⟩=>⟨x4,by rw[x1.len,x2]; exact zAn _,SqL.of (x5 _ _ h4)⟩) (by rw[lm,zCA]; lia) (fun i x ys H5 hi ⟨⟨zs,x1,x2,x3⟩,x4,x5⟩=>?_) (fun ys H5 ⟨⟨zs,x1,x2,x3⟩,x4,x5⟩=>?_)
 ·rw[zAw] at hi
  obtain⟨c,_,rfl⟩:=zAW.mp hi;refine (vE rfl (vE rfl (vE rfl ⟨c,u,wl,A,B,C,D,rfl,uo,wa.same (S4.trans x5),W,fun t z H6 s6 nt ht z0=>?_⟩)));refine⟨s6 _ _ x4,rfl,⟨zs++[z],((x1.mono (Bq s6)).snoc ht).mono (Df (s6 _ _ x4) _),by rw[zAm,x2]; rfl,fun y hy=>?_⟩,Ab,fun b o y=>?_⟩
  ·rcases zAA.mp hy with g | g
   ·exact x3 y g
   ·rw[zAk.mp g]; exact z0
  ·rw[Ar (Ap y nr)]
   exact s6 _ _ (x5 b o y)
 exact q r ys zs H5 (S4.trans x5) (S4.free nr) x4 x1 (by lia) x3
end
def QK (r:AF):Prop:=(r.1 = "own" \/ r.1 = "layer" \/ r.1 = "limit")/\Pi r.2.1/\(0<=r.2.2.1/\r.2.2.1<=250000000000)/\(r.1 = "layer" -> r.2.2.1<r.2.2.2/\r.2.2.2<=240000000461)
def EN (CC CO CL CM:Addr):Sp:=fun vs H Q _=>∃ t r,vs=[.ref t]/\H t=some (.tup (Ll r))/\QK r/\∀ p H',Same H H'->H p=none->ClAt CC CO CL CM H' p (Fu r)->Q (.ref p) H'
section
variable {P:Program} {w:World} {K:zAa} {mg:Str->Option Value} {base:Heap} {Ac Ah Ag Am Au Bc Ba At Ae Aw Al Aj Bg Ai Bd Aq:Addr}
theorem Ry:Bb ["_law_clause_here", "_law_word", "_law_by", "_law_low", "_law_high"] ["_law_clause_here"] (As Hw):=by injections
theorem Sh {f:Addr} {fd:zCC} (F:Fun K "_law_clause" "_law_clause" Hw f fd) (T:Txt K mg) (KOwn:Ek P w K mg base 4 "Own" Aw ["self", "by", "cents"] (FJ Ae Aw Al Aj)) (KLayer:Ek P w K mg base 4 "Layer" Al ["self", "by", "first", "upto"] (EU Ae Aw Al Aj)) (KLimit:Ek P w K mg base 4 "Limit" Aj ["self", "by", "most"] (CU Ae Aw Al Aj)) :
  FnOk P w K mg base Cu 6 f fd ["_law_clause_here"] (EN Ae Aw Al Aj):=by
 have sc:=Ry;bv_omega
 ·obtain⟨_,_,rfl,_⟩:=h
  rfl
 obtain⟨t,⟨wd,y,lo,hi⟩,rfl,ht,⟨hw,wy,⟨m0,m1⟩,lay⟩,q⟩:=h;refine⟨_,(Ad (Mb (pv 0) (Dw (n:=4) rfl (Bj (Az (i:=1) sc.nd rfl (Or.inl rfl)) (Bj (Az (i:=2) sc.nd rfl (Or.inl rfl)) (Bj (Az (i:=3) sc.nd rfl (Or.inl rfl)) (Bj (Az (i:=4) sc.nd rfl (Or.inl rfl)) Da))))))
   (Ad (Bv (Bk Db (pv 1) Ca (Bm _))
    (Ao (Be (Do KOwn (hr.mono (by decide)) rfl (Aa (pv 2) (Aa (pv 3) Af)))))
    Bl)
   (Ad (Bv (Bk Db (pv 1) Ca (Bm _))
    (Ao (Be (Do KLayer (hr.mono (by decide)) rfl (Aa (pv 2) (Aa (pv 3) (Aa (pv 4) Af))))))
    Bl)
   (Ao (Be (Do KLimit (hr.mono (by decide)) rfl (Aa (pv 2) (Aa (pv 3) Af)))))))),?_⟩
 have m0:0<=lo:=m0;have m1:lo<=250000000000:=m1;refine (vE rfl ⟨t,_,rfl,SqT.of ht,rfl,_,_,rfl,_,_,rfl,_,_,rfl,_,_,rfl,rfl,?_⟩);refine (vE rfl ⟨rfl,vE rfl ?_⟩);by_cases c1:wd = "own"
 ·refine dT (congrArg V.str c1) (vE rfl (vE rfl (fun p dx np ndx nex=>⟨p,dx,y,lo,rfl,Ab,wy,⟨m0,by lia⟩,fun H2 kp D=>⟨rfl,q p H2 (Fb np ndx kp) np ?_⟩⟩)))
  unfold Fu;rw[if_pos (by exact c1)];exact D
 refine dF (fun e=>c1 (V.str.inj e)) (vE rfl ⟨rfl,vE rfl ?_⟩);by_cases c2:wd = "layer"
 ·obtain⟨q1,q2⟩:=lay c2
  have q1:lo<hi:=q1;have q2:hi<=240000000461:=q2;refine dT (congrArg V.str c2) (vE rfl (vE rfl (vE rfl (fun p dx np ndx nex=>⟨p,dx,y,lo,hi,rfl,Ab,wy,⟨m0,by lia⟩,⟨by lia,by lia⟩,q1,fun H2 kp D=>⟨rfl,q p H2 (Fb np ndx kp) np ?_⟩⟩))));unfold Fu;rw[if_neg (by exact c1),if_pos (by exact c2)];exact D
 ·refine dF (fun e=>c2 (V.str.inj e)) (vE rfl (vE rfl (fun p dx np ndx nex=>⟨p,dx,y,lo,rfl,Ab,wy,⟨m0,by lia⟩,fun H2 kp D=>⟨rfl,q p H2 (Fb np ndx kp) np ?_⟩⟩)))
  unfold Fu;rw[if_neg (by exact c1),if_neg (by exact c2)];exact D
end
structure Rwc where
 p:Addr
 nm:Str
 t:Gx
 rs:List AF
 wt:Bool
def El (r:Rwc):V:=.ref r.p
def RwcAt (H:Hp) (r:Rwc):Prop:=∃ tv cl hl ht xs,H r.p=some (.tup [.str r.nm,tv,.ref cl,.ref hl,.bl r.wt])/\TrAt H tv r.t/\H cl=some (.lst xs)/\TsAt Ll H xs r.rs/\H hl=some (.lst [.ref ht])/\H ht=some (.tup [.str "h",.int 1])
structure RwcOk (r:Rwc):Prop where
 hg:Ow r.t<3
 ok:Mx Ot r.t
 l3:r.rs.length<=3
 oc:∀ c∈r.rs,QC c
theorem RwcAt.same {H H':Hp} {r:Rwc} (h:RwcAt H r) (s:Same H H'):RwcAt H' r:=by
 obtain⟨tv,cl,hl,ht,xs,h1,h2,h3,h4,h5,h6⟩:=h;exact⟨tv,cl,hl,ht,xs,s _ _ h1,h2.same s,s _ _ h3,h4.mono (Bq s),s _ _ h5,s _ _ h6⟩
def G0 (K:zAa):Sp:=fun vs H Q _=>∃ a ns nl th ca,∃ u:Int,∃ B C D:List Str,vs=[.ref a,.ref nl,.ref th,.ref ca,.int u]/\SqL K H a (List.map V.int ns)/\ns.length<=63/\Jh u/\H nl=some (.lst (D.map V.str))/\H th=some (.lst (B.map V.str))/\H ca=some (.lst (C.map V.str))/\B.length=3/\C.length=3/\(∀ z∈B,N7 z)/\(∀ z∈C,N7 z)/\D.length<=8 /\
 ∀ r (rows:List Rwc) H',Same H H'->H r=none->H' r=some (.lst (rows.map El))->(∀ x∈rows,RwcAt H' x/\RwcOk x)->rows.map (·.nm)=D->Q (.ref r) H'
section
seal L2.PS L2.PSs L2.PE L2.PA
variable {P:Program} {w:World} {K:zAa} {mg:Str->Option Value} {base:Heap}
theorem Qo:Bb ["_law_script", "_law_names_here", "_law_things", "_law_causes", "_law_unit_here", "_law_covers_here", "_law_c", "_law_shape", "_law_clauses", "_law_k", "_law_cond_here"] ["_law_script", "_law_names_here", "_law_things", "_law_causes", "_law_unit_here"] (As Hi):=by injections
theorem Si {f:Addr} {fd:zCC} (F:Fun K "_law_covers" "_law_covers" Hi f fd) (T:Txt K mg) (C_law_cell:Cn P w K mg base 1 "_law_cell" ["_law_script", "_law_k"] (Oo K)) (C_law_spread:Cn P w K mg base 1 "_law_spread" ["_law_cell_here"] Ia)
  (C_law_drawn_clause:Cn P w K mg base 2 "_law_drawn_clause" ["_law_cell_here", "_law_unit_here"] KH) (C_law_cond:Cn P w K mg base 2 "_law_cond" ["_law_cell_here", "_law_things", "_law_causes", "_law_unit_here"] I9) :
  FnOk P w K mg base Cu 3 f fd ["_law_script", "_law_names_here", "_law_things", "_law_causes", "_law_unit_here"] (G0 K):=by
 have sc:=Qo;bv_omega
 ·obtain⟨_,_,_,_,_,_,_,_,_,rfl,_⟩:=h
  rfl
 obtain⟨a,ns,nl,th,ca,u,B,C,D,rfl,ha,l63,uo,hnl,hth,hca,lB,lC,nB,nC,d5,q⟩:=h;refine⟨_,(Ad (Bf (i:=5) sc.nd rfl (Or.inl rfl) (Cg Af))
   (Ad (Cm PassesOwn.never rfl (Cw rfl T.n_range (Aa (Bn By rfl T.n_len (show zCB _=some (.builtin "len") from rfl) (Aa (pv 1) Af)) Af)) (Az (i:=6) sc.nd rfl (Or.inl rfl))
    (Ad (Bf (i:=7) sc.nd rfl (Or.inl rfl) (Ax C_law_spread (hr.mono (by decide)) rfl (Aa (Ax C_law_cell (hr.mono (by decide)) rfl (Aa (pv 0) (Aa (Ay Cd Ak (Ay Eb Ak (pv 6))) Af))) Af)))
   (Ad (Bf (i:=8) sc.nd rfl (Or.inl rfl) (Cg Af))
   (Ad (Cm PassesOwn.never rfl (Cw rfl T.n_range (Aa (Ay Bu (Ay Bw (pv 7) Ak) Ak) Af)) (Az (i:=9) sc.nd rfl (Or.inl rfl))
    (Ao (Cp (Gi PySem.F.plainAttrs_list PySem.F.slot_list_append PySem.F.type_list_append Dm (pv 8) (Aa (Ax C_law_drawn_clause (hr.mono (by decide)) rfl (Aa (Ax C_law_spread (hr.mono (by decide)) rfl (Aa (Ax C_law_cell (hr.mono (by decide)) rfl (Aa (pv 0) (Aa (Ay Cd (Ay Cd Ak (Ay Eb Ak (pv 6))) (pv 9)) Af))) Af)) (Aa (pv 4) Af))) Af)))))
   (Ad (Bf (i:=10) sc.nd rfl (Or.inl rfl) (Ax C_law_cond (hr.mono (by decide)) rfl (Aa (Ay Bw (pv 7) Ak) (Aa (pv 2) (Aa (pv 3) (Aa (pv 4) Af))))))
   (Ao (Cp (Gi PySem.F.plainAttrs_list PySem.F.slot_list_append PySem.F.type_list_append Dm (pv 5) (Aa (Cc (Aa (Bh Bo (pv 1) (pv 6) (fun _ _=>rfl)) (Aa (pv 10) (Aa (pv 8) (Aa (Cg (Aa (Cc (Aa Ca (Aa Ak Af))) Af)) (Aa (Hf Db (Ay Bu (pv 7) Ak) Ak (Bm _)) Af)))))) Af)))))))))
   (Ao (Be (pv 5))))),?_⟩
 have one:1<=sizeLine:=by rw[zCA]; decide
 have two:2<=sizeLine:=by rw[zCA]; decide
 have lm:(D.map V.str).length=D.length:=zAb _;refine⟨zAB _,fun cl ncl=>?_⟩;refine Dp [some (.ref a),some (.ref nl),some (.ref th),some (.ref ca),some (.int u),some (.ref cl),none,none,none,none,none] rfl ?_;have s1:=An ncl (.lst []);have h1:upd H cl (.lst []) cl=some (.lst []):=Ab;generalize upd H cl (.lst [])=H1 at s1 h1;refine (vE rfl ⟨nl,_,rfl,.inl (SqL.of (s1 _ _ hnl)),vE rfl ⟨by rw[lm]; lia,by rw[lm]; lia,?_⟩⟩);rw[show (((D.map V.str).length:Int)).toNat=D.length by rw[lm]; lia];refine Dq (lo:=0) (n:=D.length) (fun i σ H2=>(∃ o6 o7 o8 o9 o10,σ=[some (.ref a),some (.ref nl),some (.ref th),some (.ref ca),some (.int u),some (.ref cl),o6,o7,o8,o9,o10])/\(∃ rows:List Rwc,H2 cl=some (.lst (rows.map El))/\(∀ x∈rows,RwcAt (Off cl H2) x/\RwcOk x)/\rows.map (·.nm)=D.take i)/\Same H H2)
  ⟨⟨none,none,none,none,none,rfl⟩,⟨[],h1,(fun x hx=>nomatch hx),by rw[zCo]; rfl⟩,s1⟩ ?_ ?_
 ·rintro i σ H2 hi ⟨⟨o6,o7,o8,o9,o10,rfl⟩,⟨rows,hrows,okr,enm⟩,s2⟩
  refine Dp [some (.ref a),some (.ref nl),some (.ref th),some (.ref ca),some (.int u),some (.ref cl),some (.int (0+(i:Int))),o7,o8,o9,o10] rfl ?_;refine (vE rfl (vE rfl (vF rfl rfl ⟨.inl ⟨by decide,by decide⟩,vF rfl rfl ⟨a,ns,_,rfl,s2.seq ha,by lia,l63,vE rfl (fun r r0 r1=>?_)⟩⟩)));refine Dp [some (.ref a),some (.ref nl),some (.ref th),some (.ref ca),some (.int u),some (.ref cl),some (.int (0+(i:Int))),some (.int r),o8,o9,o10] rfl ?_;refine⟨zAB _,fun kl nkl=>?_⟩;refine Dp [some (.ref a),some (.ref nl),some (.ref th),some (.ref ca),some (.int u),some (.ref cl),some (.int (0+(i:Int))),some (.int r),some (.ref kl),o9,o10] rfl ?_;obtain⟨m,em,m3⟩:∃ m:Nat,r/4%4=(m:Int)/\m<=3:=⟨(r/4%4).toNat,by lia,by lia⟩;refine (vE rfl (vF rfl rfl ⟨⟨by decide,by decide⟩,_,_,rfl,rfl,(by show (0:Int)<4; decide),_,rfl,by lia,by lia,?_⟩));rw[show (r/4%4).toNat=m by lia];refine Dq (lo:=0) (n:=m) (fun j σ H4=>(∃ o9,σ=[some (.ref a),some (.ref nl),some (.ref th),some (.ref ca),some (.int u),some (.ref cl),some (.int (0+(i:Int))),some (.int r),some (.ref kl),o9,o10])/\(∃ xs,∃ rs:List AF,H4 kl=some (.lst xs)/\TsAt Ll H4 xs rs/\rs.length=j/\∀ c∈rs,QC c)/\Same H2 H4)
   ⟨⟨o9,rfl⟩,⟨[],[],Ab,trivial,rfl,fun c hc=>nomatch hc⟩,An nkl _⟩ ?_ ?_
  ·rintro j σ H4 hj ⟨⟨o9,rfl⟩,⟨xs,rs,hkl,ts,lr,okc⟩,s4⟩
   refine Dp [some (.ref a),some (.ref nl),some (.ref th),some (.ref ca),some (.int u),some (.ref cl),some (.int (0+(i:Int))),some (.int r),some (.ref kl),some (.int (0+(j:Int))),o10] rfl ?_;refine (vE rfl ⟨.inl ⟨rfl,_,SqL.of hkl⟩,vE rfl (vE rfl (vF rfl rfl ⟨.inl ⟨by decide,by decide⟩,vF rfl rfl (vE rfl (vF rfl rfl ⟨a,ns,_,rfl,(s2.trans s4).seq ha,by lia,l63,vE rfl (fun r' r0' r1'=>(vE rfl ⟨r',u,rfl,r0',uo,fun t c H5 s5 nt ht okc'=>⟨kl,_,_,rfl,rfl,s5 _ _ hkl,?_,?_⟩⟩))⟩))⟩))⟩)
   ·rw[ts.len,zCA]; lia
   ·refine⟨⟨_,rfl⟩,⟨xs++[.ref t],rs++[c],Ab,((ts.mono (Bq s5)).snoc ht).mono (Df (s5 _ _ hkl) _),by rw[zAm,lr]; rfl,fun y hy=>?_⟩,fun b o y=>?_⟩
    ·rcases zAA.mp hy with g | g
     ·exact okc y g
     ·rw[zAk.mp g]; exact okc'
    ·rw[Ar (Ap y nkl)]
     exact s5 _ _ (s4 b o y)
  ·rintro σ H4 ⟨⟨o9,rfl⟩,⟨xs,rs,hkl,ts,lr,okc⟩,s4⟩
   have S4:=s2.trans s4;refine (vE rfl (vF rfl rfl ⟨⟨by decide,by decide⟩,_,rfl,vE rfl (vE rfl ⟨_,u,th,ca,B,C,rfl,by lia,uo,S4 _ _ hth,S4 _ _ hca,lB,lC,nB,nC,fun v t H5 s5 tr hg okt=>?_⟩)⟩));refine Dp [some (.ref a),some (.ref nl),some (.ref th),some (.ref ca),some (.int u),some (.ref cl),some (.int (0+(i:Int))),some (.int r),some (.ref kl),o9,some v] rfl ?_;have S5:=S4.trans s5;have hrows5:=s5 _ _ (s4 _ _ hrows);have en:D[i]?=some D[i]:=zAd hi;generalize D[i]=z at en;have ez:Me (D.map V.str) (0+(i:Int))=some (.str z):=by
    rw[show (0+(i:Int))=(i:Int) by lia];refine Dr ?_;rw[zAw,en];rfl
   refine (vE rfl ⟨.inl ⟨rfl,_,SqL.of hrows5⟩,vE rfl (vE rfl (vI rfl rfl (SqL.of (S5 _ _ hnl)) ez (vE rfl (vE rfl ⟨two,fun ht nht=>?_⟩))))⟩);have s6:=An nht (.tup [V.str "h",.int 1]);have h6:upd H5 ht (.tup [V.str "h",.int 1]) ht=some (.tup [V.str "h",.int 1]):=Ab;generalize upd H5 ht (.tup [V.str "h",.int 1])=H6 at s6 h6;refine⟨one,fun hl nhl=>?_⟩;have s7:=An nhl (.lst [V.ref ht]);have h7:upd H6 hl (.lst [V.ref ht]) hl=some (.lst [V.ref ht]):=Ab;generalize upd H6 hl (.lst [V.ref ht])=H7 at s7 h7;refine (vE rfl (vF rfl rfl ⟨(by show (0:Int)<4; decide),rfl,Ci (by show 5<=1000; decide),fun tp ntp=>?_⟩));generalize decide (V.int (r%4)=V.int 1)=wb;have s8:=An ntp (.tup [V.str z,v,.ref kl,.ref hl,.bl wb]);have h8:upd H7 tp (.tup [V.str z,v,.ref kl,.ref hl,.bl wb]) tp=some (.tup [V.str z,v,.ref kl,.ref hl,.bl wb]):=Ab;generalize upd H7 tp (.tup [V.str z,v,.ref kl,.ref hl,.bl wb])=H8 at s8 h8;have S8:=s6.trans (s7.trans s8);have hrows8:=S8 _ _ hrows5;have lrows:rows.length=i:=by
    have:=congrArg List.length enm;rw[zAb,zAx] at this
    lia
   refine⟨cl,_,_,rfl,rfl,hrows8,by rw[zAb,zCA]; lia,?_⟩;have eapp:rows.map El++[V.ref tp]=(rows++[Rwc.mk tp z t rs wb]).map El:=by rw[zAr]; rfl
   rw[eapp];have nclk:kl≠cl:=(Ap hrows nkl).symm;have nhtc:ht≠cl:=(Ap hrows5 nht).symm;have nhlc:hl≠cl:=(Ap (s6 _ _ hrows5) nhl).symm;have ntpc:tp≠cl:=(Ap (s7 _ _ (s6 _ _ hrows5)) ntp).symm;have up:∀ {b:Addr} {o:HO},b≠cl->H8 b=some o->Off cl (upd H8 cl (.lst ((rows++[Rwc.mk tp z t rs wb]).map El))) b=some o:=fun n y=>Off.of n (by rw[Ar n]; exact y);have S28:=s4.trans (s5.trans S8);refine⟨⟨_,_,_,_,_,rfl⟩,⟨_,Ab,fun x hx=>?_,?_⟩,fun b o y=>?_⟩
   ·rcases zAA.mp hx with g | g
    ·obtain⟨y1,y2⟩:=okr x g
     exact⟨y1.same fun b o y=>up (Off.at y).1 (S28 _ _ (Off.at y).2),y2⟩
    ·rw[zAk.mp g]
     refine⟨⟨v,kl,hl,ht,xs,up ntpc h8,TrAt.same (fun b o y=>?_) _ tr,up nclk (S8 _ _ (s5 _ _ hkl)),ts.mono fun b o y=>?_,up nhlc (s8 _ _ h7),up nhtc (s8 _ _ (s7 _ _ h6))⟩,⟨hg,okt,by show rs.length<=3; lia,okc⟩⟩
     ·obtain⟨y1,y2⟩:=Nw.at y
      exact up (fun e=>by rw[e,s4 _ _ hrows] at y1; cases y1) (S8 _ _ y2)
     ·have y':=S8 _ _ (s5 _ _ y)
      exact up (He y' hrows8 (by intro e; cases e)) y'
   ·rw[zAr,enm,Bz en]
    rfl
   ·rw[Ar (Ap y ncl)]
    exact S8 _ _ (S5 b o y)
 ·rintro σ H2 ⟨⟨o6,o7,o8,o9,o10,rfl⟩,⟨rows,hrows,okr,enm⟩,s2⟩
  rw[zAE] at enm;exact (vE rfl (q cl rows H2 s2 ncl hrows (fun x hx=>⟨(okr x hx).1.same fun b o y=>(Off.at y).2,(okr x hx).2⟩) enm))
def LastAt (H:Hp) (v:V):Option (Str×Int)->Prop
 | none=>v = .non
 | some (nm,k)=>∃ t,v = .ref t/\H t=some (.tup [.str nm,.int k])
theorem LastAt.same {H H':Hp} {v:V} (s:Same H H'):∀ {lk:Option (Str×Int)},LastAt H v lk->LastAt H' v lk
 | none,h=>h
 | some (_,_),⟨t,e,h⟩=>⟨t,e,s _ _ h⟩
def M3:Sp:=fun vs H Q _=>∃ a ys S,∃ c:Int,vs=[.ref a,.int c]/\H a=some (.lst ys)/\Sts H ys S/\CRT.FormS 0 none S c/\∀ H',Same H H'->Q (.bl true) H'
theorem GG {nm nm':Str} {k k':Int} (n:¬ (nm=nm'/\k=k')):eqDs [.at (.str nm),.at (.int k)] [.at (.str nm'),.at (.int k')]=false:=by
 unfold eqDs eqDs eqDs BV;by_cases c1:nm=nm'
 ·by_cases c2:k=k'
  ·exact absurd ⟨c1,c2⟩ n
  ·simp [Wc,c2]
 ·simp [Wc,c1]
theorem P9 {K:zAa} {H:Hp} {t:Addr} {nm:Str} {k:Int} (h:H t=some (.tup [.str nm,.int k])):Vv K H (.seq true [.at (.str nm),.at (.int k)]) (.ref t):=by
 unfold Vv;refine⟨t,_,rfl,fun _=>SqT.of h,(fun e=>by cases e),?_⟩;unfold Reps;refine⟨_,_,rfl,?_,?_⟩
 ·unfold Vv; exact⟨rfl,rfl⟩
 unfold Reps;refine⟨_,_,rfl,?_,?_⟩
 ·unfold Vv; exact⟨rfl,rfl⟩
 unfold Reps;rfl
theorem Ys:Bb ["_law_strips", "_law_cents", "_law_at", "_law_last", "_law_strip", "_law_lo", "_law_hi", "_law_name", "_law_k"] ["_law_strips", "_law_cents"] (As Kb):=by injections
theorem Wz {f:Addr} {fd:zCC} (F:Fun K "_law_form" "_law_form" Kb f fd) (T:Txt K mg) (C_law_whole:Cn P w K mg base 1 "_law_whole" ["_law_found"] (Ik K)):FnOk P w K mg base Cu 2 f fd ["_law_strips", "_law_cents"] M3:=by
 have sc:=Ys;bv_omega
 ·obtain⟨_,_,_,_,rfl,_⟩:=h
  rfl
 obtain⟨a,ys,S,c,rfl,ha,sts,fo,q⟩:=h;have hu64:=U0 hr;refine⟨_,(Ad (Bv (Dh (Cy (Bn Ct rfl T.n_isinstance (show zCB _=some (.builtin "isinstance") from rfl) (Aa (pv 0) (Aa (Ky "list" rfl T.n_list rfl) Af)))))
    (Ao (Be Ej))
    Bl)
   (Ad (Bf (i:=2) sc.nd rfl (Or.inl rfl) Ak)
   (Ad (Bf (i:=3) sc.nd rfl (Or.inl rfl) Gu)
   (Ad (Cm PassesOwn.never rfl (Cb (pv 0)) (Az (i:=4) sc.nd rfl (Or.inl rfl))
    (Ad (Bv (PW.pt (Hg (Dh (Cy (Bn Ct rfl T.n_isinstance (show zCB _=some (.builtin "isinstance") from rfl) (Aa (pv 4) (Aa (Ky "tuple" rfl T.n_tuple rfl) Af))))) (Gj (Bk IP (Bn By rfl T.n_len (show zCB _=some (.builtin "len") from rfl) (Aa (pv 4) Af)) Ak (Bm _)))))
    (Ao (Be Ej))
    Bl)
   (Ad (Mb (pv 4) (Dw (n:=4) rfl (Bj (Az (i:=5) sc.nd rfl (Or.inl rfl)) (Bj (Az (i:=6) sc.nd rfl (Or.inl rfl)) (Bj (Az (i:=7) sc.nd rfl (Or.inl rfl)) (Bj (Az (i:=8) sc.nd rfl (Or.inl rfl)) Da))))))
   (Ad (Bv (PW.pt (Hg (Dh (Cy (Ax C_law_whole (hr.mono (by decide)) rfl (Aa (pv 5) Af)))) (Hg (Dh (Cy (Ax C_law_whole (hr.mono (by decide)) rfl (Aa (pv 6) Af)))) (Hg (Dh (Cy (Bn Ct rfl T.n_isinstance (show zCB _=some (.builtin "isinstance") from rfl) (Aa (pv 7) (Aa (Ky "str" rfl T.n_str rfl) Af))))) (Gj (Dh (Cy (Ax C_law_whole (hr.mono (by decide)) rfl (Aa (pv 8) Af)))))))))
    (Ao (Be Ej))
    Bl)
   (Ad (Bv (PW.pt (Hg (Bk IP (pv 5) (pv 2) (Bm _)) (Hg (Bk Pa (pv 6) (pv 5) (Bm _)) (Gj (Bk (HH (K:=K) hu64) (Cc (Aa (pv 7) (Aa (pv 8) Af))) (pv 3) (Bm _))))))
    (Ao (Be Ej))
    Bl)
   (Ad (Bf (i:=2) sc.nd rfl (Or.inl rfl) (pv 6))
   (Ao (Bf (i:=3) sc.nd rfl (Or.inl rfl) (Cc (Aa (pv 7) (Aa (pv 8) Af)))))))))))
   (Ao (Be (Hf Db (pv 2) (pv 1) (Bm _)))))))),?_⟩
 have ly:=sts.len;have two:2<=sizeLine:=by rw[zCA]; decide
 refine (vE rfl ⟨_,_,_,_,_,rfl,Kx,.lst ha,EZ,_,rfl,Dy ?_⟩);refine (vE rfl ⟨a,rfl,⟨_,SqL.of ha⟩,?_⟩);refine Dg (K:=K) (a:=a) (xs:=ys) (fun i σ H2=>∃ at' lk lv o4 o5 o6 o7 o8,σ=[some (.ref a),some (.int c),some (.int at'),some lv,o4,o5,o6,o7,o8]/\CRT.FormS at' lk (S.drop i) c/\LastAt H2 lv lk/\Same H H2)
  ⟨0,none,.non,none,none,none,none,none,rfl,fo,rfl,Same.refl _⟩ (fun i σ H2 _ ⟨_,_,_,_,_,_,_,_,_,_,_,s2⟩=>SqL.of (s2 _ _ ha)) ?_ ?_
 ·rintro i x σ H2 hi ⟨at',lk,lv,o4,o5,o6,o7,o8,rfl,fo2,la,s2⟩
  obtain⟨t,p,hp,rfl,ht⟩:=sts.get hi;rw[Xy hp] at fo2;obtain⟨f1,f2,f3,f4⟩:=fo2;have ht2:=s2 _ _ ht;refine Dp [some (.ref a),some (.int c),some (.int at'),some lv,some (.ref t),o5,o6,o7,o8] rfl ?_;refine (vE rfl ⟨_,_,_,_,_,rfl,Kx,.tup ht2,JI,_,rfl,Dy (vE rfl ⟨t,_,rfl,.inr (SqT.of ht2),rfl,vE rfl (nF rfl ?_)⟩)⟩);refine (vE rfl ⟨t,_,rfl,SqT.of ht2,rfl,vC rfl (vC rfl (vC rfl (vC rfl (⟨rfl,?_⟩))))⟩);refine FX [some (.ref a),some (.int c),some (.int at'),some lv,some (.ref t),some (.int p.1),some (.int p.2.1),some (.str p.2.2.1),some (.int p.2.2.2)] rfl ?_;refine (vE rfl ⟨_,_,rfl,.int _,_,rfl,Dy (vE rfl ⟨_,_,rfl,.int _,_,rfl,Dy (vE rfl ⟨_,_,_,_,_,rfl,Kx,.str _,CA,_,rfl,Dy (vE rfl ⟨_,_,rfl,.int _,_,rfl,Dy ?_⟩)⟩)⟩)⟩);refine (vE rfl (vE rfl ⟨rfl,vE rfl (nF (congrArg V.int f1) (vE rfl (vE rfl (vF rfl rfl (vE rfl (dF (by lia) (vE rfl (vE rfl ⟨two,fun tt ntt=>(vE rfl ?_)⟩))))))))⟩));have s3:=An ntt (.tup [V.str p.2.2.1,.int p.2.2.2]);have h3:upd H2 tt (.tup [V.str p.2.2.1,.int p.2.2.2]) tt=some (.tup [V.str p.2.2.1,.int p.2.2.2]):=Ab;generalize upd H2 tt (.tup [V.str p.2.2.1,.int p.2.2.2])=H3 at s3 h3;have la3:=la.same s3;have go:∀ b,b=false->∀ {A B:Prop},B->(if b=true then A else B):=fun b e A B y=>by rw[e]; exact y
  match lk,la3,f3 with
  | none,e,_=>
   refine .inl ⟨e,⟨tt,_,rfl,SqT.of h3⟩,_,rfl,Dy ?_⟩;refine (vE rfl ?_);refine (vE rfl (vE rfl ⟨two,fun t2 nt2=>?_⟩));exact⟨p.2.1,some p.2.2,.ref t2,_,_,_,_,_,rfl,f4,⟨t2,rfl,Ab⟩,s2.trans (s3.trans (An nt2 _))⟩
  | some (nm',k'),⟨tl,e,hl⟩,n=>
   subst e;refine .inr ⟨true,_,_,P9 h3,P9 hl,(by simp [deps,LY]),_,rfl,bF (GG fun y=>n ?_) ?_⟩
   ·rw[<- y.1,<- y.2]
   refine (vE rfl ?_);refine (vE rfl (vE rfl ⟨two,fun t2 nt2=>?_⟩));exact⟨p.2.1,some p.2.2,.ref t2,_,_,_,_,_,rfl,f4,⟨t2,rfl,Ab⟩,s2.trans (s3.trans (An nt2 _))⟩
 ·rintro σ H2 ⟨at',lk,lv,o4,o5,o6,o7,o8,rfl,fo2,la,s2⟩
  rw[ly,zBD] at fo2;have e:at'=c:=fo2;have q':=q H2 s2;rw[<- decide_eq_true (congrArg V.int e)] at q';exact (vE rfl (vE rfl ⟨rfl,q'⟩))
end
def U7 (κ:A8) (m:Nat):Sp:=fun vs H Q _=>∃ v t,vs=[v]/\TrAt H v t/\Ow t<m/\Mx Ot t/\∀ u H',Same H H'->CdAt κ (Nw H H') u t->Q u H'
section
seal L2.PS L2.PSs L2.PE L2.PA
variable {P:Program} {w:World} {K:zAa} {mg:Str->Option Value} {base:Heap} {Ac Ah Ag Am Au Bc Ba At Ae Aw Al Aj Bg Ai Bd Aq:Addr}
theorem Nf:Bb ["_law_cond_here"] ["_law_cond_here"] (As Ez):=by injections
theorem Mh {f:Addr} {fd:zCC} (F:Fun K "_law_condition" "_law_condition" Ez f fd) (L:Kl K mg Ac Ah Ag Am Au Bc Ba At Ae Aw Al Aj Bg Ai Bd Aq) {m:Nat} (C_law_condition:Cn P w K mg base (m+2) "_law_condition" ["_law_cond_here"] (U7 (A8.mk Ac Ah Ag Am Au Bc Ba At) m))
  (NCondition:OH K mg "Condition" Ac) (KCauseIs:Ek P w K mg base 1 "CauseIs" Ah ["self", "name"] (Jj Ah "name")) (KThingIs:Ek P w K mg base 1 "ThingIs" Ag ["self", "name"] (Jj Ag "name")) (KDaysIn:Ek P w K mg base 1 "DaysIn" Am ["self", "first", "last"] (CT Am)) (KOver:Ek P w K mg base 1 "Over" Au ["self", "cents"] (Jj Au "cents"))
  (KNot:Ek P w K mg base 1 "Not" Bc ["self", "part"] (Jj Bc "part")) (KAll:Ek P w K mg base 1 "All" Ba ["self", "several"] (Wg Ba)) (KSome:Ek P w K mg base 1 "Some" At ["self", "several"] (Wg At)) :
  FnOk P w K mg base Cu (m+1+2) f fd ["_law_cond_here"] (U7 (A8.mk Ac Ah Ag Am Au Bc Ba At) (m+1)):=by
 have sc:=Nf;bv_omega
 ·obtain⟨_,_,rfl,_⟩:=h
  rfl
 obtain⟨v,t,rfl,tr,hg,ok,q⟩:=h;refine⟨_,(Ad (Bv (Bk Db (Bh Bp (pv 0) Ak (fun _ _=>rfl)) Ca (Bm _))
    (Ao (Be (Do KCauseIs (hr.mono (by lia)) rfl (Aa (Bh Bp (pv 0) Ak (fun _ _=>rfl)) Af))))
    Bl)
   (Ad (Bv (Bk Db (Bh Bp (pv 0) Ak (fun _ _=>rfl)) Ca (Bm _))
    (Ao (Be (Do KThingIs (hr.mono (by lia)) rfl (Aa (Bh Bp (pv 0) Ak (fun _ _=>rfl)) Af))))
    Bl)
   (Ad (Bv (Bk Db (Bh Bp (pv 0) Ak (fun _ _=>rfl)) Ca (Bm _))
    (Ao (Be (Do KDaysIn (hr.mono (by lia)) rfl (Aa (Bh Bp (pv 0) Ak (fun _ _=>rfl)) (Aa (Bh Bp (pv 0) Ak (fun _ _=>rfl)) Af)))))
    Bl)
   (Ad (Bv (Bk Db (Bh Bp (pv 0) Ak (fun _ _=>rfl)) Ca (Bm _))
    (Ao (Be (Do KOver (hr.mono (by lia)) rfl (Aa (Bh Bp (pv 0) Ak (fun _ _=>rfl)) Af))))
    Bl)
   (Ad (Bv (Bk Db (Bh Bp (pv 0) Ak (fun _ _=>rfl)) Ca (Bm _))
    (Ao (Be (Do KNot (hr.mono (by lia)) rfl (Aa (Ax C_law_condition (hr.mono (by lia)) rfl (Aa (Bh Bp (pv 0) Ak (fun _ _=>rfl)) Af)) Af))))
    Bl)
   (Ad (Bv (Bk Db (Bh Bp (pv 0) Ak (fun _ _=>rfl)) Ca (Bm _))
    (Ao (Be (Do KAll (hr.mono (by lia)) rfl (Aa (Dj (NC:=["_law_part"]) (own:=["_law_part"]) (cs:=[]) (ix:=[]) rfl (CompScope.of rfl) rfl trivial (Cb (Bh Bp (pv 0) Ak (fun _ _=>rfl))) (fun _ _ _=>(Az (i:=0) (show (["_law_part"]:List Str).Nodup from by ac_nf) rfl (Or.inl rfl))) (fun _ _ _=>Dd) (fun _ _ _=>(Ax C_law_condition (hr.mono (by lia)) rfl (Aa (pv 0) Af)))) Af))))
    Bl)
   (Ad (Bv (Bk Db (Bh Bp (pv 0) Ak (fun _ _=>rfl)) Ca (Bm _))
    (Ao (Be (Do KSome (hr.mono (by lia)) rfl (Aa (Dj (NC:=["_law_part"]) (own:=["_law_part"]) (cs:=[]) (ix:=[]) rfl (CompScope.of rfl) rfl trivial (Cb (Bh Bp (pv 0) Ak (fun _ _=>rfl))) (fun _ _ _=>(Az (i:=0) (show (["_law_part"]:List Str).Nodup from by ac_nf) rfl (Or.inl rfl))) (fun _ _ _=>Dd) (fun _ _ _=>(Ax C_law_condition (hr.mono (by lia)) rfl (Aa (pv 0) Af)))) Af))))
    Bl)
   (Ao (Be (HN NCondition rfl)))))))))),?_⟩
 have sne:∀ {y z:Str},y≠z->¬ V.str y=V.str z:=fun h e=>h (V.str.inj e);cases t with
 | «at» c=>
  cases c with
  | alw=>
   unfold TrAt at tr;obtain⟨p,rfl,hp⟩:=tr;ac_rfl;ac_rfl;ac_rfl;ac_rfl;ac_rfl;ac_rfl;ac_rfl;refine fun y dx ny nd ne=>q _ _ (Tn ny nd) ?_;unfold CdAt;exact⟨y,dx,rfl,Nw.of ny Ab⟩
  | cau n=>
   unfold TrAt at tr;obtain⟨p,rfl,hp⟩:=tr;refine (vE rfl (vI rfl rfl (SqT.of hp) rfl ⟨rfl,vE rfl (dT rfl (vE rfl (vI rfl rfl (SqT.of hp) rfl (fun y dx ny nd ne=>⟨y,dx,_,rfl,Ab,rfl,q _ _ (Gv ny nd) ?_⟩))))⟩));unfold CdAt;exact⟨y,dx,rfl,Nw.of ny Ab⟩
  | thi n=>
   unfold TrAt at tr;obtain⟨p,rfl,hp⟩:=tr;ac_rfl;refine (vE rfl (vI rfl rfl (SqT.of hp) rfl ⟨rfl,vE rfl (dT rfl (vE rfl (vI rfl rfl (SqT.of hp) rfl (fun y dx ny nd ne=>⟨y,dx,_,rfl,Ab,rfl,q _ _ (Gv ny nd) ?_⟩))))⟩));unfold CdAt;exact⟨y,dx,rfl,Nw.of ny Ab⟩
  | day a b=>
   unfold TrAt at tr;obtain⟨p,rfl,hp⟩:=tr;ac_rfl;ac_rfl;refine (vE rfl (vI rfl rfl (SqT.of hp) rfl ⟨rfl,vE rfl (dT rfl (vE rfl (vI rfl rfl (SqT.of hp) rfl (vE rfl (vI rfl rfl (SqT.of hp) rfl (fun y dx ny nd ne=>⟨y,dx,_,_,rfl,Ab,fun H' kp hy=>⟨rfl,q _ _ (fun z o e=>?_) ?_⟩⟩))))))⟩))
   ·have n1:=Ap e ny
    rw[kp z n1,Ar n1,Ar (Ap e nd)]; exact e
   ·unfold CdAt
    exact⟨y,dx,rfl,Nw.of ny hy⟩
  | ovr c=>
   unfold TrAt at tr;obtain⟨p,rfl,hp⟩:=tr;ac_rfl;ac_rfl;ac_rfl;refine (vE rfl (vI rfl rfl (SqT.of hp) rfl ⟨rfl,vE rfl (dT rfl (vE rfl (vI rfl rfl (SqT.of hp) rfl (fun y dx ny nd ne=>⟨y,dx,_,rfl,Ab,rfl,q _ _ (Gv ny nd) ?_⟩))))⟩));unfold CdAt;exact⟨y,dx,rfl,Nw.of ny Ab⟩
 | no t=>
  unfold TrAt at tr;obtain⟨p,wt,rfl,hp,tr⟩:=tr;unfold Ow at hg;unfold Mx at ok;ac_rfl;ac_rfl;ac_rfl;ac_rfl;refine (vE rfl (vI rfl rfl (SqT.of hp) rfl ⟨rfl,vE rfl (dT rfl (vE rfl (vI rfl rfl (SqT.of hp) rfl ⟨wt,t,rfl,tr,by lia,ok,fun u H1 s1 cd y dx ny nd ne=>⟨y,dx,_,rfl,Ab,rfl,q _ _ (s1.trans (Gv ny nd)) ?_⟩⟩)))⟩));unfold CdAt;exact⟨y,dx,u,rfl,Nw.of (s1.free ny) Ab,cd.same (Nw.grow fun b o _ e=>Gv ny nd _ _ e)⟩
 | al ts=>
  unfold TrAt at tr;obtain⟨p,a,vs,rfl,hp,ha,trs⟩:=tr;unfold Ow at hg;have hlen:=trs.len;unfold Mx at ok;obtain⟨_,ts8,oks⟩:=ok;ac_rfl;ac_rfl;ac_rfl;ac_rfl;ac_rfl;refine (vE rfl (vI rfl rfl (SqT.of hp) rfl ⟨rfl,vE rfl (dT rfl (vE rfl (vI rfl rfl (SqT.of hp) rfl ⟨a,rfl,⟨_,SqL.of ha⟩,fun pc hpc=>?_⟩)))⟩));refine Ck (K:=K) (a:=a) (xs:=vs) (fun i ys H3=>H3 pc=some (.lst ys)/\ys.length=i/\Same H H3/\CdsAt (A8.mk Ac Ah Ag Am Au Bc Ba At) (Off pc (Nw H H3)) ys (ts.take i)) ⟨Ab,rfl,An hpc _,by rw[zCo]; unfold CdsAt; trivial⟩ (fun i ys H3 _ ⟨h1,h2,h3,_⟩=>⟨h1,by lia,SqL.of (h3 _ _ ha)⟩) (by rw[zCA]; lia) ?_ ?_
  ·rintro i v ys H3 hi ⟨h1,h2,h3,h4⟩
   obtain⟨t,et,tr⟩:=trs.get hi;refine (vE rfl ⟨v,t,rfl,tr.same h3,Qh (by lia) i et,W1 oks t (zAF et),fun u H6 s6 cd=>⟨s6 _ _ h1,rfl,Ab,by rw[zAm,h2]; rfl,Nm hpc (h3.trans s6),?_⟩⟩);rw[Bz et];refine CdsAt.snoc (h4.same fun b o e=>?_) (cd.same fun b o e=>?_)
   ·obtain⟨n,e⟩:=Off.at e
    obtain⟨e0,e⟩:=Nw.at e;exact Off.of n (Nw.of e0 (by rw[Ar n]; exact s6 _ _ e))
   ·obtain⟨e0,e⟩:=Nw.at e
    have n:b≠pc:=fun z=>by rw[z,h1] at e0; cases e0
    exact Off.of n (Nw.of (h3.free e0) (by rw[Ar n]; exact e))
  ·rintro ys H3 ⟨h1,h2,h3,h4⟩
   rw[hlen,zAE] at h4;intro y dx ny nd ne;have s3:Same H3 (upd (upd H3 dx (.own y)) y (.ins Ba dx [])):=Tn ny nd;refine⟨y,dx,pc,ys,rfl,Ab,s3 _ _ h1,fun l H4 nl kp hy hl=>⟨rfl,?_⟩⟩;have k4:∀ b o,H3 b=some o->H4 b=some o:=fun b o e=>by rw[kp b (Ap e ny) (Ap (s3 _ _ e) nl)]; exact s3 _ _ e
   refine q _ _ (fun b o e=>k4 _ _ (h3 _ _ e)) ?_;unfold CdAt;refine⟨y,dx,l,ys,rfl,Nw.of (h3.free ny) hy,Nw.of (h3.free (s3.free nl)) hl,h4.same fun b o e=>?_⟩;obtain⟨n,e⟩:=Off.at e;obtain⟨e0,e⟩:=Nw.at e;exact Nw.of e0 (k4 _ _ e)
 | so ts=>
  unfold TrAt at tr;obtain⟨p,a,vs,rfl,hp,ha,trs⟩:=tr;unfold Ow at hg;have hlen:=trs.len;unfold Mx at ok;obtain⟨_,ts8,oks⟩:=ok;ac_rfl;ac_rfl;ac_rfl;ac_rfl;ac_rfl;ac_rfl;refine (vE rfl (vI rfl rfl (SqT.of hp) rfl ⟨rfl,vE rfl (dT rfl (vE rfl (vI rfl rfl (SqT.of hp) rfl ⟨a,rfl,⟨_,SqL.of ha⟩,fun pc hpc=>?_⟩)))⟩));refine Ck (K:=K) (a:=a) (xs:=vs) (fun i ys H3=>H3 pc=some (.lst ys)/\ys.length=i/\Same H H3/\CdsAt (A8.mk Ac Ah Ag Am Au Bc Ba At) (Off pc (Nw H H3)) ys (ts.take i)) ⟨Ab,rfl,An hpc _,by rw[zCo]; unfold CdsAt; trivial⟩ (fun i ys H3 _ ⟨h1,h2,h3,_⟩=>⟨h1,by lia,SqL.of (h3 _ _ ha)⟩) (by rw[zCA]; lia) ?_ ?_
  ·rintro i v ys H3 hi ⟨h1,h2,h3,h4⟩
   obtain⟨t,et,tr⟩:=trs.get hi;refine (vE rfl ⟨v,t,rfl,tr.same h3,Qh (by lia) i et,W1 oks t (zAF et),fun u H6 s6 cd=>⟨s6 _ _ h1,rfl,Ab,by rw[zAm,h2]; rfl,Nm hpc (h3.trans s6),?_⟩⟩);rw[Bz et];refine CdsAt.snoc (h4.same fun b o e=>?_) (cd.same fun b o e=>?_)
   ·obtain⟨n,e⟩:=Off.at e
    obtain⟨e0,e⟩:=Nw.at e;exact Off.of n (Nw.of e0 (by rw[Ar n]; exact s6 _ _ e))
   ·obtain⟨e0,e⟩:=Nw.at e
    have n:b≠pc:=fun z=>by rw[z,h1] at e0; cases e0
    exact Off.of n (Nw.of (h3.free e0) (by rw[Ar n]; exact e))
  ·rintro ys H3 ⟨h1,h2,h3,h4⟩
   rw[hlen,zAE] at h4;intro y dx ny nd ne;have s3:Same H3 (upd (upd H3 dx (.own y)) y (.ins At dx [])):=Tn ny nd;refine⟨y,dx,pc,ys,rfl,Ab,s3 _ _ h1,fun l H4 nl kp hy hl=>⟨rfl,?_⟩⟩;have k4:∀ b o,H3 b=some o->H4 b=some o:=fun b o e=>by rw[kp b (Ap e ny) (Ap (s3 _ _ e) nl)]; exact s3 _ _ e
   refine q _ _ (fun b o e=>k4 _ _ (h3 _ _ e)) ?_;unfold CdAt;refine⟨y,dx,l,ys,rfl,Nw.of (h3.free ny) hy,Nw.of (h3.free (s3.free nl)) hl,h4.same fun b o e=>?_⟩;obtain⟨n,e⟩:=Off.at e;obtain⟨e0,e⟩:=Nw.at e;exact Nw.of e0 (k4 _ _ e)
end
def cu (r:Rwc):Cvx:=⟨r.p,r.nm,r.t,r.rs.map Fu,r.wt⟩
def un (x:Cvx):Str×Gx×List Cl×Bool:=(x.nm,x.t,x.cs,x.wt)
def Hc (xs:List Cvx):List Cvx:=xs.filter (fun x => !x.wt)++xs.filter (fun x=>x.wt)
theorem Gs {α β:Type} (f:α->β) (g:β->Bool) (xs:List α):((xs.map f).filter g)=(xs.filter (fun x=>g (f x))).map f:=by
 rw[List.filter_map];rfl
theorem A0 {α:Type} (p:α->Bool):∀ xs:List α,(xs.filter (fun x => !p x)++xs.filter p).Perm xs
 | []=>.nil
 | x::xs=>by
  have ih:=A0 p xs;cases e:p x with
  | true=>
   rw[zBj (by rw[e]; decide),zBi e];exact List.perm_middle.trans (ih.cons x)
  | false=>
   rw[zBi (by rw[e]; rfl),zBj (by rw[e]; decide)];exact ih.cons x
theorem Km (xs:List Cvx):(Hc xs).Perm xs:=A0 (fun x:Cvx=>x.wt) xs
theorem B4 (z:LF) (xs:List Cvx):(asked z xs).map un=(xs.map un).filter (fun y=>hT y.2.1 z.ls):=by
 unfold asked;rw[Gs];rfl
theorem DB {bs:List Cvx} {rows:List Rwc} (h:bs.map un=(Hc (rows.map cu)).map un):∀ x∈bs,∃ r∈rows,un x=un (cu r):=fun x hx=>by
 have:un x∈(Hc (rows.map cu)).map un:=by rw[<- h]; exact zAy.mpr ⟨x,hx,rfl⟩
 obtain⟨y,hy,e⟩:=zAy.mp this;obtain⟨r,hr,rfl⟩:=zAy.mp ((Km _).mem_iff.mp hy);exact⟨r,hr,e.symm⟩
theorem BF {bs:List Cvx} {rows:List Rwc} (h:bs.map un=(Hc (rows.map cu)).map un):bs.length=rows.length:=by
 have:=congrArg List.length h;rw[zAb,zAb,(Km _).length_eq,zAb] at this;exact this
theorem IN {bs:List Cvx} {rows:List Rwc} (h:bs.map un=(Hc (rows.map cu)).map un) (nd:(rows.map (·.nm)).Nodup):(bs.map (·.nm)).Nodup:=by
 have e:=congrArg (List.map (fun y:Str×Gx×List Cl×Bool=>y.1)) h;rw[zBx,zBx] at e;have e':bs.map (·.nm)=(Hc (rows.map cu)).map (·.nm):=e;rw[e',((Km (rows.map cu)).map (·.nm)).nodup_iff,zBx];exact nd
theorem Yr:∀ {S:List Zz} {a c:Int} {lk:Option (Str×Int)},CRT.FormS a lk S c->a<=c/\∀ s∈S,s.1<s.2.1/\s.2.1<=c
 | [],a,c,lk,h=>⟨Int.le_of_eq h,fun s hs=>nomatch hs⟩
 | s::r,a,c,lk,⟨h1,h2,_,h4⟩=>by
  obtain⟨g1,g2⟩:=Yr h4;refine⟨by lia,fun t ht=>?_⟩;rcases zAo.mp ht with e | e
  ·rw[e]; exact⟨h2,g1⟩
  ·exact g2 t e
theorem EM:∀ {cs:List (CRT.Av Str)} {un:List CR.Rn},∀ s∈CRT.paidS cs un,s.2.2.2 = -1
 | [],un,s,h=>nomatch h
 | c::cs,un,s,h=>by
  unfold CRT.paidS at h;rcases zAA.mp h with g | g
  ·unfold CRT.tag at g
   obtain⟨p,_,rfl⟩:=zAy.mp g;rfl
  ·exact EM s g
set_option tactic.hygienic true in
theorem MZ {kvs:Kp} {z:LF} {as:List Cvx} {S:List Zz} (h:Gw kvs z as S):∀ s∈S,-1<=s.2.2.2:=by
 unfold Gw at h
 split at h
 ·rw[h]
  intro s hs;rw[zAk.mp hs];show (-1:Int)<=0
  decide
 ·rename_i x _
  obtain⟨avs,parts,av,ch,pm,so⟩:=h;intro s hs;have hs':=pm.mem_iff.mp hs;unfold CRT.allS at hs';rcases zAA.mp hs' with g | g
  ·have:=EM s g
   lia
  ·unfold CRT.borneS at g
   obtain⟨l,hl,hsl⟩:=zCc.mp g;obtain⟨p,hp,rfl⟩:=zAy.mp hl;unfold CRT.tag at hsl;obtain⟨q,_,rfl⟩:=zAy.mp hsl;show -1<=Ua (Bx x.cs (numsOf kvs z x)) p.2.2;have pk : -1<=p.2.2:=by
    obtain⟨c,_,_,e⟩:=G6 ch hp;unfold CRP.fw at e;rcases Yj (sp:=Br z.ct x.cs (numsOf kvs z x)) (k:=0) (c:=c) with y | ⟨i,q,_,y,_⟩
    ·lia
    ·lia
   cases ro:Bx x.cs (numsOf kvs z x) with
   | none=>exact pk
   | some nj=>
    obtain⟨n,j⟩:=nj;obtain⟨j0,_⟩:=Qg ro ch;show -1<=if p.2.2 = -1 then j else p.2.2
    split <;> lia
theorem IY {z:Str} (h:Pe (.str z)=true):N7 z:=⟨z.cps.toList,(FL z).symm,of_decide_eq_true h⟩
def U9 (K:zAa):Sp:=fun vs H Q _=>∃ (a:Addr) (ns:List Int),vs=[.ref a]/\SqL K H a (ns.map V.int)/\ns.length<=63/\∀ H',Q (.bl true) H'
theorem AskAt.same {κ:A8} {CC CO CL CM C CB:Addr} {H H':Hp} {b:Addr} {bs:List Cvx} (h:AskAt κ CC CO CL CM C CB H b bs) (s:Same H H'):AskAt κ CC CO CL CM C CB H' b bs:=by
 obtain⟨dx,fs,ak,h1,h2,h3,h4⟩:=h;exact⟨dx,fs,ak,s _ _ h1,h2,s _ _ h3,fun x hx=>(h4 x hx).same s⟩
theorem DN {m n:Int} {l:List Int} (h:Q2 m l) (g:Q2 n l):m=n:=by
 have:=h.2 n g.1;have:=g.2 m h.1
 lia
theorem CY {m n:Int} {l:List Int} (h:V2 m l) (g:V2 n l):m=n:=by
 have:=h.2 n g.1;have:=g.2 m h.1
 lia
structure R1 (r:Rwc):Prop where
 hg:Ow r.t<3
 ok:Mx Ot r.t
 l3:r.rs.length<=3
 oc:∀ c∈r.rs,QK c
theorem RwcOk.od {r:Rwc} (h:RwcOk r):R1 r:=⟨h.hg,h.ok,h.l3,fun c hc=>by
 obtain⟨h1,h2,⟨h3,h4⟩,h5⟩:=h.oc c hc;exact⟨h1,h2,⟨h3,by lia⟩,h5⟩⟩
def ML (x:Cvx):Cv:=(x.p,x.nm,x.wt)
def HsAt (C:Addr) (H:Hp) (x:Cvx):Prop:=∃ dx fs hv,H x.p=some (.ins C dx fs)/\fs.lookup ("houses" : Str)=some (.ref hv)/\H hv=some (.lst [.str "h"])
theorem HsAt.same {C:Addr} {H H':Hp} {x:Cvx} (h:HsAt C H x) (s:Same H H'):HsAt C H' x:=by
 obtain⟨dx,fs,hv,h1,h2,h3⟩:=h;exact⟨dx,fs,hv,s _ _ h1,h2,s _ _ h3⟩
def Yg (κ:A8) (CC CO CL CM C CB:Addr):Sp:=fun vs H Q _=>∃ a,∃ rows:List Rwc,vs=[.ref a]/\H a=some (.lst (rows.map El))/\(∀ x∈rows,RwcAt H x/\R1 x)/\Nms (rows.map (·.nm)) /\
 ∀ b cl ak (cvs:List Cvx) H',Same H H'->BkAt CB H' b cl ak (cvs.map ML)->(∀ x∈cvs,CvxAt κ CC CO CL CM C H' x/\HsAt C H' x)->cvs.map un=(rows.map cu).map un->Q (.ref b) H'
theorem JN {κ:A8} {CC CO CL CM C:Addr} {H:Hp} {cvs:List Cvx} (h:∀ x∈cvs,CvxAt κ CC CO CL CM C H x):CvsAt C H (cvs.map ML):=fun c hc=>by
 obtain⟨x,hx,rfl⟩:=zAy.mp hc;obtain⟨dx,fs,_,_,_,e,b1,_,_,b4,_⟩:=h x hx;exact⟨dx,fs,e,b1,b4⟩
theorem BJ {κ:A8} {CC CO CL CM C CB:Addr} {H:Hp} {b cl ak:Addr} {cvs:List Cvx} (B:BkAt CB H b cl ak (cvs.map ML)) (h:∀ x∈cvs,CvxAt κ CC CO CL CM C H x):AskAt κ CC CO CL CM C CB H b (Hc cvs):=by
 obtain⟨⟨d1,gs,hek,k1,k2,k3⟩,hecl,heak⟩:=B;refine⟨d1,gs,ak,hek,k2,?_,fun x hx=>h x ((Km cvs).mem_iff.mp hx)⟩;rw[heak];unfold KZ Hc;rw[Gs,Gs,<- zAr,zBx];rfl
theorem FN {xs ys:List Cvx} (e:xs.map un=ys.map un):(Hc xs).map un=(Hc ys).map un:=by
 have go:∀ xs:List Cvx,(Hc xs).map un=(xs.map un).filter (fun y => !y.2.2.2)++(xs.map un).filter (fun y=>y.2.2.2):=fun xs=>by
  unfold Hc;rw[Gs,Gs,zAr];rfl
 rw[go,go,e]
section
seal L2.PS L2.PSs L2.PE L2.PA
variable {P:Program} {w:World} {K:zAa} {mg:Str->Option Value} {base:Heap} {Ac Ah Ag Am Au Bc Ba At Ae Aw Al Aj Bg Ai Bd Aq:Addr}
theorem Xm:Bb ["_law_covers_here", "_law_some", "_law_name", "_law_cond_here", "_law_clauses", "_law_houses", "_law_waits"] ["_law_covers_here"] (As Kd):=by injections
theorem Ya {f:Addr} {fd:zCC} (F:Fun K "_law_book" "_law_book" Kd f fd) (T:Txt K mg) (C_law_clause:Cn P w K mg base 6 "_law_clause" ["_law_clause_here"] (EN Ae Aw Al Aj)) (C_law_condition:Cn P w K mg base 5 "_law_condition" ["_law_cond_here"] (U7 (A8.mk Ac Ah Ag Am Au Bc Ba At) 3))
  (KCover:Ek P w K mg base 6 "Cover" Ai ["self", "name", "condition", "clauses", "houses", "waits"] (P0 Ai)) (KBook:Ek P w K mg base 1 "Book" Bd ["self", "covers"] (O0 Ai Bd)) :
  FnOk P w K mg base Cu 8 f fd ["_law_covers_here"] (Yg (A8.mk Ac Ah Ag Am Au Bc Ba At) Ae Aw Al Aj Ai Bd):=by
 have sc:=Xm;bv_omega
 ·obtain⟨_,_,rfl,_⟩:=h
  rfl
 obtain⟨a,rows,rfl,ha,all,N,q⟩:=h;refine⟨_,(Ad (Bf (i:=1) sc.nd rfl (Or.inl rfl) (Cg Af))
   (Ad (Cm PassesOwn.never rfl (Cb (pv 0)) (Dw (n:=5) rfl (Bj (Az (i:=2) sc.nd rfl (Or.inl rfl)) (Bj (Az (i:=3) sc.nd rfl (Or.inl rfl)) (Bj (Az (i:=4) sc.nd rfl (Or.inl rfl)) (Bj (Az (i:=5) sc.nd rfl (Or.inl rfl)) (Bj (Az (i:=6) sc.nd rfl (Or.inl rfl)) Da))))))
    (Ao (Cp (Gi PySem.F.plainAttrs_list PySem.F.slot_list_append PySem.F.type_list_append Dm (pv 1) (Aa (Do KCover (hr.mono (by decide)) rfl (Aa (pv 2) (Aa (Ax C_law_condition (hr.mono (by decide)) rfl (Aa (pv 3) Af)) (Aa (Dj (NC:=["_law_one"]) (own:=["_law_one"]) (cs:=[]) (ix:=[]) rfl (CompScope.of rfl) rfl trivial (Cb (pv 4)) (fun _ _ _=>(Az (i:=0) (show (["_law_one"]:List Str).Nodup from by ac_nf) rfl (Or.inl rfl))) (fun _ _ _=>Dd) (fun _ _ _=>(Ax C_law_clause (hr.mono (by decide)) rfl (Aa (pv 0) Af)))) (Aa (Dz De rfl T.n_list (show zCB _=some (.type "list") from rfl) (Aa (pv 5) Af)) (Aa (pv 6) Af)))))) Af)))))
   (Ao (Be (Do KBook (hr.mono (by decide)) rfl (Aa (pv 1) Af)))))),?_⟩
 have l8:rows.length<=8:=by have:=N.hi; rwa [zAb] at this
 have lm:(rows.map El).length=rows.length:=zAb _;refine⟨zAB _,fun sl nsl=>?_⟩;refine Dp [some (.ref a),some (.ref sl),none,none,none,none,none] rfl ?_;have s1:=An nsl (.lst []);have h1:upd H sl (.lst []) sl=some (.lst []):=Ab;generalize upd H sl (.lst [])=H1 at s1 h1;refine (vE rfl ⟨a,rfl,⟨_,SqL.of (s1 _ _ ha)⟩,?_⟩);refine Dg (K:=K) (a:=a) (xs:=rows.map El) (fun i σ H3=>(∃ o2 o3 o4 o5 o6,σ=[some (.ref a),some (.ref sl),o2,o3,o4,o5,o6])/\(∃ cvs:List Cvx,H3 sl=some (.lst (cvs.map xV))/\(∀ x∈cvs,CvxAt (A8.mk Ac Ah Ag Am Au Bc Ba At) Ae Aw Al Aj Ai (Off sl H3) x/\HsAt Ai (Off sl H3) x)/\cvs.map un=((rows.take i).map cu).map un)/\Same H H3)
  ⟨⟨none,none,none,none,none,rfl⟩,⟨[],h1,(fun x hx=>nomatch hx),by rw[zCo]; rfl⟩,s1⟩ (fun i σ H3 _ hh=>SqL.of (hh.2.2 _ _ ha)) ?_ ?_
 ·rintro i x σ H4 hi ⟨⟨o2,o3,o4,o5,o6,rfl⟩,⟨cvs,hsl4,acv,eun⟩,s4⟩
  rw[zAw] at hi;obtain⟨r,hx,rfl⟩:=zAW.mp hi;have mx:=zAF hx;have il:i<rows.length:=(zAi.mp hx).1;obtain⟨⟨tv,cl,hl',ht',xs,g1,g2,g3,g4,g5,g6⟩,rok⟩:=all r mx;have lx:=g4.len;have l3:=rok.l3;refine⟨r.p,_,rfl,SqT.of (s4 _ _ g1),rfl,_,_,rfl,_,_,rfl,_,_,rfl,_,_,rfl,_,_,rfl,rfl,?_⟩;refine FX [some (.ref a),some (.ref sl),some (.str r.nm),some tv,some (.ref cl),some (.ref hl'),some (.bl r.wt)] rfl ?_;refine (vE rfl ⟨.inl ⟨rfl,_,SqL.of hsl4⟩,vE rfl (vE rfl ⟨tv,r.t,rfl,TrAt.same s4 _ g2,rok.hg,rok.ok,fun u H5 s5 cd=>?_⟩)⟩);have s45:=s4.trans s5;refine (vE rfl ⟨cl,rfl,⟨_,SqL.of (s45 _ _ g3)⟩,fun kl nkl=>?_⟩);refine Ck (K:=K) (a:=cl) (xs:=xs) (fun j ys H6=>Cls4 Ae Aw Al Aj H6 ys ((r.rs.take j).map Fu)/\H6 kl=some (.lst ys)/\Same H5 H6) ⟨trivial,Ab,An nkl _⟩
   (fun j ys H6 hj ⟨c1,c2,c3⟩=>⟨c2,by rw[c1.len,zAb,zAx]; lia,SqL.of (c3 _ _ (s45 _ _ g3))⟩) (by rw[zCA]; lia) (fun j y ys H6 hj ⟨c1,c2,c3⟩=>?_) (fun ys H6 ⟨c1,hkl,s6⟩=>?_)
  ·obtain⟨tc,c,ec,rfl,htc⟩:=g4.get hj
   refine (vE rfl ⟨tc,c,rfl,c3 _ _ (s45 _ _ htc),rok.oc c (zAF ec),fun p H7 s7 np hp=>⟨s7 _ _ c2,rfl,?_,Ab,Nm nkl (c3.trans s7)⟩⟩);rw[Bz ec,zAr];exact ((c1.mono (Mp s7)).snoc hp).mono (HC (s7 _ _ c2) _)
  rw[lx,zAE] at c1;have s46:=s45.trans s6;have hsl6:=s6 _ _ (s5 _ _ hsl4);refine (vE rfl ⟨hl',_,rfl,.inl (SqL.of (s46 _ _ g5)),fun h2 nh2=>?_⟩);have s7:=An nh2 (.lst [V.ref ht']);have hh7:upd H6 h2 (.lst [V.ref ht']) h2=some (.lst [V.ref ht']):=Ab;generalize upd H6 h2 (.lst [V.ref ht'])=H7 at s7 hh7;refine (vE rfl (fun p dp np ndp nep=>?_));have s8:Same H7 (upd (upd H7 dp (.own p)) p (.ins Ai dp [])):=(An ndp _).trans (An (by rw[Ar (Ne.symm nep)]; exact np) _);refine⟨p,dp,r.nm,u,kl,ys,h2,ht',r.wt,rfl,Ab,N.ok _ (zAy.mpr ⟨r,mx,rfl⟩),s8 _ _ (s7 _ _ hkl),by rw[c1.len,zAb]; lia,s8 _ _ hh7,s8 _ _ (s7 _ _ (s46 _ _ g6)),fun H9 cl9 h9 d0 fs k9 e9 b1 b2 b3 bh b4 b5 hcl9 fcl9 hh9 fh9=>⟨rfl,?_⟩⟩;have s9:Same H7 H9:=Fb np ndp k9;have s69:=s7.trans s9;have hsl9:=s69 _ _ hsl6;have lcv:cvs.length=i:=by
   have:=congrArg List.length eun;rw[zAb,zAb,zAb,zAx] at this
   lia
  refine⟨sl,_,_,rfl,rfl,hsl9,by rw[zAb,zCA]; lia,?_⟩;have eapp:cvs.map xV++[V.ref p]=(cvs++[Cvx.mk p r.nm r.t (r.rs.map Fu) r.wt]).map xV:=by rw[zAr]; rfl
  rw[eapp];have nps:p≠sl:=(Ap (s7 _ _ hsl6) np).symm;have ncs:cl9≠sl:=(Ap (s8 _ _ (s7 _ _ hsl6)) fcl9).symm;have nhs:h9≠sl:=(Ap (s8 _ _ (s7 _ _ hsl6)) fh9).symm;have up:∀ {b:Addr} {o:HO},b≠sl->H9 b=some o->Off sl (upd H9 sl (.lst ((cvs++[Cvx.mk p r.nm r.t (r.rs.map Fu) r.wt]).map xV))) b=some o:=fun n y=>Off.of n (by rw[Ar n]; exact y);have s59:=s5.trans (s6.trans s69);refine⟨⟨_,_,_,_,_,rfl⟩,⟨_,Ab,fun x hx=>?_,?_⟩,fun b o y=>?_⟩
  ·rcases zAA.mp hx with g | g
   ·have sm:Same (Off sl H4) (Off sl (upd H9 sl (.lst ((cvs++[Cvx.mk p r.nm r.t (r.rs.map Fu) r.wt]).map xV)))):=fun b o y=>up (Off.at y).1 (s59 _ _ (Off.at y).2)
    exact⟨(acv x g).1.same sm,(acv x g).2.same sm⟩
   ·rw[zAk.mp g]
    refine⟨⟨d0,fs,u,cl9,ys,up nps e9,b1,b2,b3,b4,b5,CdAt.same (fun b o y=>?_) _ cd,up ncs hcl9,c1.mono fun t C dx fs z=>?_,by show (r.rs.map Fu).length<=8; rw[zAb]; lia⟩,⟨d0,fs,h9,up nps e9,bh,up nhs hh9⟩⟩
    ·obtain⟨y1,y2⟩:=Nw.at y
     exact up (fun e=>by rw[e,hsl4] at y1; cases y1) (s69 _ _ (s6 _ _ y2))
    ·have z9:=s69 _ _ z
     exact up (He z9 hsl9 (by intro e; cases e)) z9
  ·rw[zAr,eun,Bz hx,zAr,zAr]
   rfl
  ·rw[Ar (Ap y nsl)]
   exact s59 _ _ (s4 b o y)
 ·rintro σ H3 ⟨⟨o2,o3,o4,o5,o6,rfl⟩,⟨cvs,hsl,acv,eun⟩,s3⟩
  rw[zAb,zAE] at eun;have lcv:cvs.length=rows.length:=by
   have:=congrArg List.length eun
   rwa [zAb,zAb,zAb] at this
  have acv3:∀ x∈cvs,CvxAt (A8.mk Ac Ah Ag Am Au Bc Ba At) Ae Aw Al Aj Ai H3 x/\HsAt Ai H3 x:=fun x hx=>⟨(acv x hx).1.same fun b o y=>(Off.at y).2,(acv x hx).2.same fun b o y=>(Off.at y).2⟩;have enm:cvs.map (·.nm)=rows.map (·.nm):=by
   have:=congrArg (List.map (fun y:Str×Gx×List Cl×Bool=>y.1)) eun;rw[zBx,zBx,zBx] at this;exact this
  refine (vE rfl (fun bk db nbk ndb neb=>?_));have s4:Same H3 (upd (upd H3 db (.own bk)) bk (.ins Bd db [])):=(An ndb _).trans (An (by rw[Ar (Ne.symm neb)]; exact nbk) _);have ecv:(cvs.map ML).map Uw=cvs.map xV:=by rw[zBx]; rfl
  refine⟨bk,db,sl,cvs.map ML,rfl,Ab,by rw[ecv]; exact s4 _ _ hsl,(JN fun x hx=>(acv3 x hx).1).same s4,by rw[zAb]; lia,?_,fun cl ak H5 k5 B ncl nak=>⟨rfl,?_⟩⟩
  ·rw[zBx]
   show (cvs.map (·.nm)).Nodup;rw[enm];exact N.nd
  ·have s5:Same H3 H5:=Fb nbk ndb k5
   exact q bk cl ak cvs H5 (s3.trans s5) B (fun x hx=>⟨(acv3 x hx).1.same s5,(acv3 x hx).2.same s5⟩) eun
end
theorem PR {kvs:Kp} {z:LF} {x:Cvx} {parts:List CRP.Tr3} (ch:CRP.Ch (CRP.fw (Br z.ct x.cs (numsOf kvs z x))) 0 none parts z.ct) {p:CRP.Tr3} (hp:p∈parts) : -1<=Ua (Bx x.cs (numsOf kvs z x)) p.2.2:=by
 have pk : -1<=p.2.2:=by
  obtain⟨c,_,_,e⟩:=G6 ch hp;unfold CRP.fw at e;rcases Yj (sp:=Br z.ct x.cs (numsOf kvs z x)) (k:=0) (c:=c) with y | ⟨i,q,_,y,_⟩
  ·lia
  ·lia
 cases ro:Bx x.cs (numsOf kvs z x) with
 | none=>exact pk
 | some nj=>
  obtain⟨n,j⟩:=nj;obtain⟨j0,_⟩:=Qg ro ch;show -1<=if p.2.2 = -1 then j else p.2.2
  split <;> lia
theorem BA {kvs:Kp} {z:LF} {x:Cvx} {xs:List Cvx} {avs:List (CRT.Av Str)} (av:Avs kvs z (x::xs) avs) (c0:0<z.ct) {parts:List CRP.Tr3} (ch:CRP.Ch (CRP.fw (Br z.ct x.cs (numsOf kvs z x))) 0 none parts z.ct) :
  ∀ s∈CRT.borneS x.nm (Ua (Bx x.cs (numsOf kvs z x))) parts (CRT.leftS avs [(0,z.ct)]),0<=s.2.2.2:=by
 intro s hs;obtain⟨p,hp,e,q,hq,e1,e2⟩:=CRT.borne_mem hs;rw[e];show 0<=Ua (Bx x.cs (numsOf kvs z x)) p.2.2;have ge:=PR ch hp;by_cases m:Ua (Bx x.cs (numsOf kvs z x)) p.2.2 = -1
 ·exfalso
  obtain⟨b1,b2,b3⟩:=CRT.cutW_bd hq;have inn:CR.inR (CR.cutW (CRT.leftS avs [(0,z.ct)]) p.1 p.2.1) q.1=true:=CR.inR_iff.mpr ⟨q,hq,Int.le_refl _,b3⟩;rw[CR.cutW_in,zAp] at inn;have no:=O3 av c0 ch p hp m q.1 b1 (by lia);rw[no] at inn;cases inn.1
 ·lia
def Rz (c c':Cl):Prop:=c=c'\/∃ y m m',c = .lim y m/\c' = .lim y m'/\m<=m'
def Rzs:List Cl->List Cl->Prop
 | [],[]=>True
 | c::cs,d::ds=>Rz c d/\Rzs cs ds
 | _,_=>False
theorem Rzs.refl:∀ cs:List Cl,Rzs cs cs
 | []=>trivial
 | _::cs=>⟨.inl rfl,Rzs.refl cs⟩
theorem Rzs.len:∀ {cs ds:List Cl},Rzs cs ds->cs.length=ds.length
 | [],[],_=>rfl
 | [],_::_,h=>h.elim
 | _::_,[],h=>h.elim
 | _::_,_::_,h=>by rw[zAf,zAf,Rzs.len h.2]
theorem CH:∀ {cs ds:List Cl},Rzs cs ds->∀ j:Nat,((cs[j]?).getD (.any "")).way=((ds[j]?).getD (.any "")).way
 | [],[],_,_=>rfl
 | [],_::_,h,_=>h.elim
 | _::_,[],h,_=>h.elim
 | c::cs,d::ds,h,0=>by
  show c.way=d.way;rcases h.1 with e | ⟨y,m,m',e1,e2,_⟩
  ·rw[e]
  ·rw[e1,e2]; rfl
 | c::cs,d::ds,h,j+1=>CH h.2 j
theorem Zk {k:Int}:∀ {cs ds:List Cl} {ns:List Int},Rzs cs ds->Br k cs ns=Br k ds ns
 | [],[],_,_=>rfl
 | [],_::_,_,h=>h.elim
 | _::_,[],_,h=>h.elim
 | _::_,_::_,[],_=>rfl
 | c::cs,d::ds,n::ns,h=>by
  have ih:=Zk (k:=k) (ns:=ns) h.2;unfold Br at ih ⊢;rw[zBF,zBF,ih];rcases h.1 with e | ⟨y,m,m',e1,e2,_⟩
  ·rw[e]
  ·rw[e1,e2]; rfl
def MN:List (Option Int)->List (Option Int)->Prop
 | [],[]=>True
 | none::r,none::s=>MN r s
 | some a::r,some b::s=>a<=b/\MN r s
 | _,_=>False
theorem Zx:∀ {cs ds:List Cl} {ns:List Int},Rzs cs ds->MN (Ce cs ns) (Ce ds ns)
 | [],[],_,_=>trivial
 | [],_::_,_,h=>h.elim
 | _::_,[],_,h=>h.elim
 | _::_,_::_,[],_=>trivial
 | c::cs,d::ds,n::ns,h=>by
  have ih:=Zx (ns:=ns) h.2;show MN (Zd (Kw c n)::Ce cs ns) (Zd (Kw d n)::Ce ds ns);rcases h.1 with e | ⟨y,m,m',e1,e2,le⟩
  ·rw[e]
   cases Zd (Kw d n) with
   | none=>exact ih
   | some v=>exact⟨Int.le_refl _,ih⟩
  ·rw[e1,e2]
   refine⟨?_,ih⟩;show CR.maxI (m-n) 0<=CR.maxI (m'-n) 0;unfold CR.maxI
   split <;> split <;> lia
def RO:Option (Int×Int)->Option (Int×Int)->Prop
 | none,none=>True
 | some p,some q=>p.1<=q.1
 | _,_=>False
theorem Nk:∀ {r s:List (Option Int)} {k:Int} {o u:Option (Int×Int)},MN r s->RO o u->RO (Dv r k o) (Dv s k u)
 | [],[],_,_,_,_,h=>h
 | [],_::_,_,_,_,h,_=>h.elim
 | none::_,[],_,_,_,h,_=>h.elim
 | some _::_,[],_,_,_,h,_=>h.elim
 | none::_,some _::_,_,_,_,h,_=>h.elim
 | some _::_,none::_,_,_,_,h,_=>h.elim
 | none::r,none::s,k,o,u,h,g=>Nk (r:=r) (s:=s) (k:=k+1) h g
 | some a::r,some b::s,k,none,none,h,_=>Nk (k:=k+1) (o:=some (a,k)) (u:=some (b,k)) h.2 h.1
 | some _::_,some _::_,_,none,some _,_,g=>g.elim
 | some _::_,some _::_,_,some _,none,_,g=>g.elim
 | some a::r,some b::s,k,some (m,j),some (m',j'),h,g=>by
  have g:m<=m':=g;have l:=h.1;refine Nk (k:=k+1) (o:=if a<m then some (a,k) else some (m,j)) (u:=if b<m' then some (b,k) else some (m',j')) h.2 ?_;by_cases c1:a<m
  ·by_cases c2:b<m'
   ·rw[if_pos c1,if_pos c2]; exact l
   ·rw[if_pos c1,if_neg c2]; show a<=m'; lia
  ·by_cases c2:b<m'
   ·rw[if_neg c1,if_pos c2]; show m<=b; lia
   ·rw[if_neg c1,if_neg c2]; exact g
abbrev U4:=Str×Gx×List Cl×Bool
def Us (a b:U4):Prop:=a.1=b.1/\a.2.1=b.2.1/\Rzs a.2.2.1 b.2.2.1/\a.2.2.2=b.2.2.2
inductive UMore:List U4->List U4->Prop
 | nil:UMore [] []
 | add {b:U4} {as bs:List U4}:UMore as bs->UMore as (b::bs)
 | same {a b:U4} {as bs:List U4}:Us a b->UMore as bs->UMore (a::as) (b::bs)
theorem Us.refl (a:U4):Us a a:=⟨rfl,rfl,Rzs.refl _,rfl⟩
theorem UMore.refl:∀ l:List U4,UMore l l
 | []=>.nil
 | a::l=>.same (Us.refl a) (UMore.refl l)
theorem UMore.app {a b c d:List U4} (h:UMore a b) (g:UMore c d):UMore (a++c) (b++d):=by
 induction h with
 | nil=>exact g
 | add _ ih=>exact .add ih
 | same u _ ih=>exact .same u ih
theorem UMore.filt {p:U4->Bool} (hp:∀ a b,Us a b->p a=p b) {a b:List U4} (h:UMore a b):UMore (a.filter p) (b.filter p):=by
 induction h with
 | nil=>exact .nil
 | @add b as bs _ ih=>
  cases c:p b with
  | true=>rw[zBi c]; exact .add ih
  | false=>rw[zBj (by rw[c]; exact zAl)]; exact ih
 | @same a b as bs u _ ih=>
  have e:=hp a b u;cases c:p b with
  | true=>rw[zBi (e.trans c),zBi c]; exact .same u ih
  | false=>rw[zBj (by rw[e,c]; exact zAl),zBj (by rw[c]; exact zAl)]; exact ih
theorem V1 (xs:List Cvx):(Hc xs).map un=(xs.map un).filter (fun y => !y.2.2.2)++(xs.map un).filter (fun y=>y.2.2.2):=by
 unfold Hc;rw[Gs,Gs,zAr];rfl
theorem UMore.asked {z:LF} {xs ys:List Cvx} (h:UMore (xs.map un) (ys.map un)):UMore ((asked z (Hc xs)).map un) ((asked z (Hc ys)).map un):=by
 rw[B4,B4,V1,V1];refine UMore.filt (fun a b u=>by rw[u.2.1]) (UMore.app (UMore.filt (fun a b u=>by rw[u.2.2.2]) h) (UMore.filt (fun a b u=>u.2.2.2) h))
theorem DA {kvs:Kp} {z:LF} {l m:List U4} (h:UMore l m):∀ {xs ys:List Cvx} {as bs:List (CRT.Av Str)},xs.map un=l->ys.map un=m->Avs kvs z xs as->Avs kvs z ys bs->CRT.More as bs:=by
 induction h with
 | nil=>
  intro xs ys as bs e1 e2 h1 h2;obtain rfl:=List.map_eq_nil_iff.mp e1;obtain rfl:=List.map_eq_nil_iff.mp e2
  match as,bs,h1,h2 with
  | [],[],_,_=>exact .nil
 | @add b l m _ ih=>
  intro xs ys as bs e1 e2 h1 h2
  match ys,bs,e2,h2 with
  | y::ys,b::bs,e2,h2=>
   exact .add (ih e1 (List.cons.inj e2).2 h1 h2.2)
 | @same a b l m u _ ih=>
  intro xs ys as bs e1 e2 h1 h2
  match xs,as,ys,bs,e1,h1,e2,h2 with
  | x::xs,p::as,y::ys,q::bs,e1,⟨⟨W,w1,ea⟩,r1⟩,e2,⟨⟨W',w2,eb⟩,r2⟩=>
   obtain⟨k1,f1⟩:=List.cons.inj e1;obtain⟨k2,f2⟩:=List.cons.inj e2;rw[<- k1,<- k2] at u;obtain⟨u1,u2,u3,u4⟩:=u;have u1:x.nm=y.nm:=u1;have u3:Rzs x.cs y.cs:=u3;have en:numsOf kvs z x=numsOf kvs z y:=by
    unfold numsOf Jz;rw[u3.len,u1];refine List.map_congr_left fun j _=>?_;rw[CH u3 j]
   rw[en] at w1 ea;obtain⟨lo,hi,m1,m2,rfl⟩:=w1;obtain⟨lo',hi',m1',m2',rfl⟩:=w2;rw[Zk u3] at m1 m2;refine .same ?_ ?_ (ih f1 f2 r1 r2)
   ·rw[ea,eb,DN m1 m1',CY m2 m2']
   ·intro v hv
    have ro:RO (Bx x.cs (numsOf kvs z y)) (Bx y.cs (numsOf kvs z y)):=Nk (Zx u3) trivial;rw[eb] at hv;rw[ea];have hv:(Bx y.cs (numsOf kvs z y)).map (·.1)=some v:=hv;show ∃ m',(Bx x.cs (numsOf kvs z y)).map (·.1)=some m'/\m'<=v;cases c1:Bx x.cs (numsOf kvs z y) with
    | none=>
     cases c2:Bx y.cs (numsOf kvs z y) with
     | none=>rw[c2] at hv; cases hv
     | some q=>rw[c1,c2] at ro; exact ro.elim
    | some p=>
     cases c2:Bx y.cs (numsOf kvs z y) with
     | none=>rw[c2] at hv; cases hv
     | some q=>
      rw[c1,c2] at ro;rw[c2] at hv;have ev:q.1=v:=Option.some.inj hv;exact⟨p.1,rfl,by have:p.1<=q.1:=ro; lia⟩
theorem AM {kvs:Kp} {z:LF} {xs ys:List Cvx} {S T:List Zz} (h:UMore (xs.map un) (ys.map un)) (c0:0<z.ct) (hS:Gw kvs z xs S) (hT:Gw kvs z ys T) (lS:∀ s∈S,s.1<s.2.1) (lT:∀ s∈T,s.1<s.2.1) :
  ∀ s∈S,s.2.2.2<0->∀ t∈T,0<=t.2.2.2->¬ (t.1<s.2.1/\s.1<t.2.1):=by
 intro s hs k t ht k' ⟨o1,o2⟩
 match xs,h,hS with
 | [],_,hS=>
  have e:S=[((0:Int),z.ct,("" : Str),(0:Int))]:=hS;rw[e] at hs;rw[zAk.mp hs] at k;exact absurd k (by show ¬ (0:Int)<0; decide)
 | x::xs,h,⟨avs,parts,av,ch,pm,so⟩=>
  match ys,h,hT with
  | [],h,_=>cases h
  | y::ys,h,⟨bvs,parts',bv,ch',pm',so'⟩=>
   have f1:=CRT.frm_one c0;have mo:=DA h rfl rfl av bv;have ms:=pm.mem_iff.mp hs;have mt:=pm'.mem_iff.mp ht;unfold CRT.allS at ms mt;have inP:s∈CRT.paidS avs [(0,z.ct)]:=by
    rcases zAA.mp ms with g | g
    ·exact g
    ·have:=BA av c0 ch s g
     lia
   have NG:t∈CRT.borneS y.nm (Ua (Bx y.cs (numsOf kvs z y))) parts' (CRT.leftS bvs [(0,z.ct)]):=by
    rcases zAA.mp mt with g | g
    ·have:=(CRT.paidS_key g).1
     lia
    ·exact g
   have l1:=lS s hs;have l2:=lT t ht;obtain⟨p,hp,e,q,hq,e1,e2⟩:=CRT.borne_mem NG;have inn:CR.inR (CR.cutW (CRT.leftS bvs [(0,z.ct)]) p.1 p.2.1) (max s.1 t.1)=true:=CR.inR_iff.mpr ⟨q,hq,by lia,by lia⟩;rw[CR.cutW_in,zAp] at inn;have y1:=CRT.more_left mo f1 f1 (CR.pos_one _) (CR.pos_one _) (fun n z=>z) _ inn.1;have y2:=((CRT.paidS_in f1).mp ⟨s,inP,by lia,by lia⟩:CR.inR _ (max s.1 t.1)=true/\_).2;rw[y1] at y2;cases y2
def KForm (kvs:Kp):Prop:=(∀ p∈kvs,∃ nm k y,∃ n:Int,p=(Pj nm k y,V.int n))/\(kvs.map (·.1)).Nodup
theorem E6 {kvs:Kp} {k:List Dt} {v:V} (h:Eu kvs k=some v):(k,v)∈kvs:=by
 unfold Eu at h;obtain⟨p,hp,rfl⟩:=zAW.mp h;have e:=List.find?_some hp;have:p.1=k:=of_decide_eq_true e;rw[<- this];exact List.mem_of_find?_eq_some hp
theorem AG {kvs:Kp} {k:List Dt} (h:k∉kvs.map (·.1)):Eu kvs k=none:=by
 cases e:Eu kvs k with
 | none=>rfl
 | some v=>exact absurd (zAy.mpr ⟨_,E6 e,rfl⟩) h
theorem EQ {kvs:Kp} {k:List Dt} {v:V} (h:k∉kvs.map (·.1)):Hb kvs k v=kvs++[(k,v)]:=by
 unfold Hb;rw[if_neg];intro z;obtain⟨p,hp,e⟩:=zCx.mp z;exact h (zAy.mpr ⟨p,hp,of_decide_eq_true e⟩)
theorem AY {kvs:Kp} {k:List Dt} {v:V}:(Hb kvs k v).map (·.1)=kvs.map (·.1)\/(k∉kvs.map (·.1)/\(Hb kvs k v).map (·.1)=kvs.map (·.1)++[k]):=by
 unfold Hb;by_cases z:(kvs.any fun kv=>decide (kv.1=k))=true
 ·rw[if_pos z,zBx]
  refine .inl ?_
  congr 1
  funext p
  show (if p.1=k then (p.1,v) else p).1=p.1
  split <;> rfl
 ·rw[if_neg z,zAr]
  refine .inr ⟨fun m=>z ?_,rfl⟩;obtain⟨p,hp,e⟩:=zAy.mp m;exact zCx.mpr ⟨p,hp,decide_eq_true e⟩
theorem EI {kvs:Kp} {k:List Dt} {v:V} {p:List Dt×V} (h:p∈Hb kvs k v):p∈kvs\/p=(k,v):=by
 unfold Hb at h
 split at h
 ·obtain⟨q,hq,e⟩:=zAy.mp h
  by_cases c:q.1=k
  ·rw[if_pos c,c] at e
   exact .inr e.symm
  ·rw[if_neg c] at e
   exact .inl (by rw[<- e]; exact hq)
 ·rcases zAA.mp h with g | g
  ·exact .inl g
  ·exact .inr (zAk.mp g)
theorem KForm.put {kvs:Kp} (h:KForm kvs) (nm:Str) (k:Int) (y:Dt) (n:Int):KForm (Hb kvs (Pj nm k y) (.int n)):=by
 refine⟨fun p hp=>?_,?_⟩
 ·rcases EI hp with g | g
  ·exact h.1 p g
  ·exact⟨nm,k,y,n,g⟩
 ·rcases AY (kvs:=kvs) (k:=Pj nm k y) (v:=.int n) with e | ⟨z,e⟩
  ·rw[e]
   exact h.2
  ·rw[e,zCr]
   refine⟨h.2,List.pairwise_singleton _ _,fun a ha b hb e=>?_⟩;rw[zAk.mp hb] at e;exact z (e▸ha)
theorem KForm.int {kvs:Kp} (h:KForm kvs):IntV kvs:=fun k v e=>by
 obtain⟨nm,j,y,n,ep⟩:=h.1 _ (E6 e);exact⟨n,(congrArg Prod.snd ep)⟩
def O7 (kvs:Kp) (z:LF) (rows:List Rwc):Prop:=∀ r∈rows,∀ (j:Nat) (c:AF),r.rs[j]?=some c->∃ n:Int,Eu kvs (Pj r.nm (j:Int) (Tk c.2.1 z))=some (.int n)
def Wx:Sp:=fun vs H Q _=>∃ a l,∃ rows:List Rwc,∃ z,∃ c u:Int,vs=[.ref a,.ref l,.int c,.int u]/\H a=some (.lst (rows.map El))/\(∀ x∈rows,RwcAt H x/\RwcOk x)/\rows.length<=8/\H l=some (.tup (LF.vs z))/\Jh u /\
 ∀ d kvs H',Same H H'->H d=none->H' d=some (.dT kvs)->KForm kvs->kvs.length<=3*rows.length->O7 kvs z rows->Q (.ref d) H'
def M5 (CN:Addr):Sp:=fun vs H Q _=>∃ d kvs,vs=[.ref d]/\H d=some (.dT kvs)/\KForm kvs/\kvs.length<=700/\∀ p kp H',Same H H'->CtAt CN H' p kp kvs->H p=none->H kp=none->Q (.ref p) H'
theorem RH:(0:Int)<(10:Int)^(60:Int).toNat:=by ac_nf
section
seal L2.PS L2.PSs L2.PE L2.PA
variable {P:Program} {w:World} {K:zAa} {mg:Str->Option Value} {base:Heap} {Ac Ah Ag Am Au Bc Ba At Ae Aw Al Aj Bg Ai Bd Aq:Addr}
theorem Tq:Bb ["_law_covers_here", "_law_loss_here", "_law_cell_here", "_law_unit_here", "_law_drawn", "_law_had_of", "_law_c", "_law_name", "_law_cond_here", "_law_clauses", "_law_houses", "_law_waits", "_law_k", "_law_number"] ["_law_covers_here", "_law_loss_here", "_law_cell_here", "_law_unit_here"] (As Ip):=by injections
set_option tactic.hygienic true in
theorem Uh {f:Addr} {fd:zCC} (F:Fun K "_law_state" "_law_state" Ip f fd) (T:Txt K mg) (C_law_amount:Cn P w K mg base 1 "_law_amount" ["_law_digit", "_law_unit_here"] Vr) (C_law_key:Cn P w K mg base 1 "_law_key" ["_law_by", "_law_loss_here"] N8) :
  FnOk P w K mg base Cu 2 f fd ["_law_covers_here", "_law_loss_here", "_law_cell_here", "_law_unit_here"] Wx:=by
 have sc:=Tq;bv_omega
 ·obtain⟨_,_,_,_,_,_,rfl,_⟩:=h
  rfl
 obtain⟨a,l,rows,z,c0,u,rfl,ha,all,l8,hl,uo,q⟩:=h;have hu2:=BD hr;refine⟨_,(Ad (Bf (i:=4) sc.nd rfl (Or.inl rfl) (Ay Bu (Ay Eb (pv 2) Ak) Ak))
   (Ad (Bf (i:=5) sc.nd rfl (Or.inl rfl) Zm)
   (Ad (Cm PassesOwn.never rfl (Cw rfl T.n_range (Aa (Bn By rfl T.n_len (show zCB _=some (.builtin "len") from rfl) (Aa (pv 0) Af)) Af)) (Az (i:=6) sc.nd rfl (Or.inl rfl))
    (Ad (Mb (Bh Bo (pv 0) (pv 6) (fun _ _=>rfl)) (Dw (n:=5) rfl (Bj (Az (i:=7) sc.nd rfl (Or.inl rfl)) (Bj (Az (i:=8) sc.nd rfl (Or.inl rfl)) (Bj (Az (i:=9) sc.nd rfl (Or.inl rfl)) (Bj (Az (i:=10) sc.nd rfl (Or.inl rfl)) (Bj (Az (i:=11) sc.nd rfl (Or.inl rfl)) Da)))))))
   (Ao (Cm PassesOwn.never rfl (Cw rfl T.n_range (Aa (Bn By rfl T.n_len (show zCB _=some (.builtin "len") from rfl) (Aa (pv 9) Af)) Af)) (Az (i:=12) sc.nd rfl (Or.inl rfl))
    (Ad (Bf (i:=13) sc.nd rfl (Or.inl rfl) (Ax C_law_amount (hr.mono (by decide)) rfl (Aa (Ay Bw (Ay Bu (Ay Bw (pv 4) (Ay Cd (Ay Cd Ak (Ay Eb Ak (pv 6))) (Ay Eb Ak (pv 12)))) Ak) Ak) (Aa (pv 3) Af))))
   (Ad (Bv (Bk Db (Bh Bp (Bh Bo (pv 9) (pv 12) (fun _ _=>rfl)) Ak (fun _ _=>rfl)) Ca (Bm _))
    (Ao (Bf (i:=13) sc.nd rfl (Or.inl rfl) (Bn (Ib rfl) rfl T.n_min (show zCB _=some (.builtin "min") from rfl) (Aa (pv 13) (Aa (Bh Bp (Bh Bo (pv 9) (pv 12) (fun _ _=>rfl)) Ak (fun _ _=>rfl)) Af)))))
    (Ao (Bv (Bk Db (Ay Bu (pv 4) Ak) Ak (Bm _))
    (Ao (Bf (i:=13) sc.nd rfl (Or.inl rfl) (Ay Bu (pv 2) (Ay Rb Ak Ak))))
    Bl)))
   (Ao (S9 hu2 (pv 5) (Cc (Aa (pv 7) (Aa (pv 12) (Aa (Ax C_law_key (hr.mono (by decide)) rfl (Aa (Bh Bp (Bh Bo (pv 9) (pv 12) (fun _ _=>rfl)) Ak (fun _ _=>rfl)) (Aa (pv 1) Af))) Af)))) (pv 13) rfl))))))))
   (Ao (Be (pv 5)))))),?_⟩
 have lm:(rows.map El).length=rows.length:=zAb _;refine (vE rfl (vF rfl rfl ⟨.inr ⟨by decide,by decide⟩,vF rfl rfl ⟨(by show (0:Int)<2147483647; decide),?_⟩⟩));refine Na 0 2147483646 (md (by decide)) fun dr dr0 dr1=>?_;intro d nd;refine Dp [some (.ref a),some (.ref l),some (.int c0),some (.int u),some (.int dr),some (.ref d),none,none,none,none,none,none,none,none] rfl ?_;have s1:=An nd (.dT []);have h1:upd H d (.dT []) d=some (.dT []):=Ab;generalize upd H d (.dT [])=H1 at s1 h1;refine (vE rfl ⟨a,_,rfl,.inl (SqL.of (s1 _ _ ha)),vE rfl ⟨by rw[lm]; lia,by rw[lm]; lia,?_⟩⟩);rw[show (((rows.map El).length:Int)).toNat=rows.length by rw[lm]; lia];refine Dq (lo:=0) (n:=rows.length) (fun i σ H2=>(∃ o6 o7 o8 o9 o10 o11 o12 o13,σ=[some (.ref a),some (.ref l),some (.int c0),some (.int u),some (.int dr),some (.ref d),o6,o7,o8,o9,o10,o11,o12,o13])/\(∃ kvs,H2 d=some (.dT kvs)/\KForm kvs/\kvs.length<=3*i/\O7 kvs z (rows.take i))/\Same H H2)
  ⟨⟨none,none,none,none,none,none,none,none,rfl⟩,⟨[],h1,⟨(fun p hp=>nomatch hp),zCn⟩,zAB _,fun r hr'=>by rw[zCo] at hr'; exact nomatch hr'⟩,s1⟩ ?_ ?_
 ·rintro i σ H2 hi ⟨⟨o6,o7,o8,o9,o10,o11,o12,o13,rfl⟩,⟨kvs,hd2,kf,lk,ha2⟩,s2⟩
  have er:rows[i]?=some rows[i]:=zAd hi;generalize rows[i]=r at er;have mx:=zAF er;obtain⟨⟨tv,cl,hl',ht',xs,g1,_,g3,g4,_,_⟩,rok⟩:=all r mx;have ai:Me (rows.map El) (0+(i:Int))=some (.ref r.p):=by
   rw[show (0+(i:Int))=(i:Int) by lia];refine Dr ?_;rw[zAw,er];rfl
  have lx:=g4.len;have l3:=rok.l3;refine Dp [some (.ref a),some (.ref l),some (.int c0),some (.int u),some (.int dr),some (.ref d),some (.int (0+(i:Int))),o7,o8,o9,o10,o11,o12,o13] rfl ?_;refine (vE rfl (vE rfl (vI rfl rfl (SqL.of (s2 _ _ ha)) ai ⟨r.p,_,rfl,SqT.of (s2 _ _ g1),rfl,vC rfl (vC rfl (vC rfl (vC rfl (vC rfl (⟨rfl,?_⟩)))))⟩)));refine FX [some (.ref a),some (.ref l),some (.int c0),some (.int u),some (.int dr),some (.ref d),some (.int (0+(i:Int))),some (.str r.nm),some tv,some (.ref cl),some (.ref hl'),some (.bl r.wt),o12,o13] rfl ?_;refine (vE rfl ⟨cl,_,rfl,.inl (SqL.of (s2 _ _ g3)),vE rfl ⟨by lia,by lia,?_⟩⟩);rw[show ((xs.length:Int)).toNat=r.rs.length by lia];refine Dq (lo:=0) (n:=r.rs.length) (fun j σ H3=>(∃ o12 o13,σ=[some (.ref a),some (.ref l),some (.int c0),some (.int u),some (.int dr),some (.ref d),some (.int (0+(i:Int))),some (.str r.nm),some tv,some (.ref cl),some (.ref hl'),some (.bl r.wt),o12,o13])/\(∃ kvs,H3 d=some (.dT kvs)/\KForm kvs/\kvs.length<=3*i+j/\O7 kvs z (rows.take i)/\∀ (j':Nat) (c:AF),j'<j->r.rs[j']?=some c->∃ n:Int,Eu kvs (Pj r.nm (j':Int) (Tk c.2.1 z))=some (.int n))/\Same H H3)
   ⟨⟨o12,o13,rfl⟩,⟨kvs,hd2,kf,by lia,ha2,fun j' c h=>absurd h (zBm _)⟩,s2⟩ ?_ ?_
  ·rintro j σ H3 hj ⟨⟨o12,o13,rfl⟩,⟨kvs,hd3,kf3,lk3,ha3,hj3⟩,s3⟩
   have ec:r.rs[j]?=some r.rs[j]:=zAd hj;generalize r.rs[j]=c at ec;obtain⟨tc,htc,hc⟩:=g4.at ec;have aj:Me xs (0+(j:Int))=some (.ref tc):=by rw[show (0+(j:Int))=(j:Int) by lia]; exact Dr htc
   refine Dp [some (.ref a),some (.ref l),some (.int c0),some (.int u),some (.int dr),some (.ref d),some (.int (0+(i:Int))),some (.str r.nm),some tv,some (.ref cl),some (.ref hl'),some (.bl r.wt),some (.int (0+(j:Int))),o13] rfl ?_;refine (vE rfl (vE rfl (vF rfl rfl ⟨.inl ⟨by decide,by decide⟩,vF rfl rfl (vE rfl (vF rfl rfl ⟨.inl ⟨by decide,by decide⟩,vF rfl rfl (vF rfl rfl ⟨⟨by lia,by lia⟩,_,_,rfl,rfl,(by show (0:Int)<78; decide),_,_,rfl,rfl,⟨by decide,by decide⟩,_,rfl,_,u,rfl,?_,uo,fun m m0 m1=>?_⟩)⟩))⟩)))
   ·have:=md (a:=dr/(1+5*(0+(i:Int))+3*(0+(j:Int)))) (b:=78) (by decide)
    lia
   refine Dp [some (.ref a),some (.ref l),some (.int c0),some (.int u),some (.int dr),some (.ref d),some (.int (0+(i:Int))),some (.str r.nm),some tv,some (.ref cl),some (.ref hl'),some (.bl r.wt),some (.int (0+(j:Int))),some (.int m)] rfl ?_;refine (vE rfl (vE rfl (vI rfl rfl (SqL.of (s3 _ _ g3)) aj (vI rfl rfl (SqT.of (s3 _ _ hc)) rfl ⟨rfl,vE rfl ?_⟩))));refine IT (fun σ H'=>(∃ m:Int,σ=[some (.ref a),some (.ref l),some (.int c0),some (.int u),some (.int dr),some (.ref d),some (.int (0+(i:Int))),some (.str r.nm),some tv,some (.ref cl),some (.ref hl'),some (.bl r.wt),some (.int (0+(j:Int))),some (.int m)])/\H'=H3) (fun _ N R=>?_) (fun _ N R=>?_) ?_
   ·exact (vE rfl (vE rfl (vE rfl (vI rfl rfl (SqL.of (s3 _ _ g3)) aj (vI rfl rfl (SqT.of (s3 _ _ hc)) rfl ⟨_,_,rfl,R _ _ ⟨⟨_,rfl⟩,rfl⟩⟩)))))
   ·refine (vE rfl (vF rfl rfl ⟨(by show (0:Int)<9; decide),rfl,vE rfl ?_⟩))
    by_cases c4:dr%9=4
    ·exact dT (congrArg V.int c4) (vE rfl (vF rfl rfl ⟨⟨by decide,by decide,by decide⟩,_,_,rfl,rfl,RH,R _ _ ⟨⟨_,rfl⟩,rfl⟩⟩))
    ·exact dF (fun e=>c4 (V.int.inj e)) (R _ _ ⟨⟨_,rfl⟩,rfl⟩)
   rintro σ H' ⟨⟨m,rfl⟩,rfl⟩;refine (vE rfl (vE rfl (vE rfl (vE rfl (vE rfl (vE rfl (vI rfl rfl (SqL.of (s3 _ _ g3)) aj (vI rfl rfl (SqT.of (s3 _ _ hc)) rfl (vE rfl ⟨c.2.1,l,z,rfl,s3 _ _ hl,Ci (by show 3<=1000; decide),fun t nt=>?_⟩)))))))));have s4:=An nt (.tup [V.str r.nm,.int (0+(j:Int)),kV (Tk c.2.1 z)]);refine⟨d,_,rfl,DPut.t (k:=Pj r.nm (0+(j:Int)) (Tk c.2.1 z)) (s4 _ _ hd3) Ab (by rw[zCA]; lia),?_⟩;have e0:(0+(j:Int))=(j:Int):=by lia
   refine⟨⟨_,_,rfl⟩,⟨_,Ab,kf3.put _ _ _ _,zAG (Jp _ _ _) (by lia),fun r' hr' j' c' e'=>?_,fun j' c' hj' e'=>?_⟩,fun b o y=>?_⟩
   ·obtain⟨n',en⟩:=ha3 r' hr' j' c' e'
    rw[C0]
    split
    ·exact⟨_,rfl⟩
    ·exact⟨n',en⟩
   ·rw[C0]
    split
    ·exact⟨_,rfl⟩
    ·rename_i ne
     by_cases ej:j'=j
     ·subst ej
      rw[ec] at e';cases e';rw[e0] at ne;exact absurd rfl ne
     ·exact hj3 j' c' (by lia) e'
   ·rw[Ar (Ap y nd)]
    exact s4 _ _ (s3 b o y)
  ·rintro σ H3 ⟨⟨o12,o13,rfl⟩,⟨kvs,hd3,kf3,lk3,ha3,hj3⟩,s3⟩
   refine⟨⟨_,_,_,_,_,_,_,_,rfl⟩,⟨kvs,hd3,kf3,by lia,fun r' hr' j' c' e'=>?_⟩,s3⟩;rw[Bz er] at hr';rcases zAA.mp hr' with g | g
   ·exact ha3 r' g j' c' e'
   ·rw[zAk.mp g] at e' ⊢
    exact hj3 j' c' (zAi.mp e').1 e'
 ·rintro σ H2 ⟨⟨o6,o7,o8,o9,o10,o11,o12,o13,rfl⟩,⟨kvs,hd2,kf,lk,ha2⟩,s2⟩
  rw[zAE] at ha2;exact (vE rfl (q d kvs H2 s2 nd hd2 kf lk ha2))
theorem Rw:Bb ["_law_had_of", "_law_counts_here", "_law_place", "_law_number"] ["_law_had_of"] (As Ht):=by injections
theorem Sj {f:Addr} {fd:zCC} (F:Fun K "_law_counts" "_law_counts" Ht f fd) (T:Txt K mg) (KCounts:Ek P w K mg base 1 "Counts" Aq ["self"] (EB Aq)) (Madd:Iv P w K mg base 2 Aq "add" ["self", "name", "k", "key", "cents"] (EW Aq)) :
  FnOk P w K mg base Cu 3 f fd ["_law_had_of"] (M5 Aq):=by
 have sc:=Rw;bv_omega
 ·obtain⟨_,_,rfl,_⟩:=h
  rfl
 obtain⟨d,kvs,rfl,hd,kf,lk,q⟩:=h;refine⟨_,(Ad (Bf (i:=1) sc.nd rfl (Or.inl rfl) (Z5 KCounts (hr.mono (by decide)) rfl))
   (Ad (GB (Cm PassesOwn.never rfl (BY (pv 0)) (Dw (n:=2) rfl (Bj (Az (i:=2) sc.nd rfl (Or.inl rfl)) (Bj (Az (i:=3) sc.nd rfl (Or.inl rfl)) Da)))
    (Ao (Cp (Ed Madd (hr.mono (by decide)) (pv 1) (Aa (Bh Bp (pv 2) Ak (fun _ _=>rfl)) (Aa (Bh Bp (pv 2) Ak (fun _ _=>rfl)) (Aa (Bh Bp (pv 2) Ak (fun _ _=>rfl)) (Aa (pv 3) Af)))))))))
   (Ao (Be (pv 1))))),?_⟩
 intro p dp np ndp nep;refine⟨p,dp,rfl,Ab,fun kp H1 k1 ct nkp=>⟨rfl,?_⟩⟩;have s1:Same H H1:=Fb np ndp k1;have fk:H kp=none:=X3 nkp;refine Dp [some (.ref d),some (.ref p),none,none] rfl ?_;have hd1:=s1 _ _ hd;have ndk:d≠kp:=Ap hd fk;have ndp':d≠p:=Ap hd np;refine⟨d,_,hd1,trivial,_,rfl,d,kvs,rfl,hd1,fun ob=>?_⟩;have cf:CtAt Aq (upd H1 d (.frz ob (.dT kvs))) p kp []:=by
  obtain⟨⟨dx,fs,e,r⟩,h1⟩:=ct;exact⟨⟨dx,fs,by rw[Ar ndp'.symm]; exact e,r⟩,by rw[Ar ndk.symm]; exact h1⟩
 refine Y6 (a:=d) (ob:=ob) (kvs:=kvs) (fun i σ H2=>(∃ o2 o3,σ=[some (.ref d),some (.ref p),o2,o3])/\CtAt Aq H2 p kp (kvs.take i)/\H2 d=some (.frz ob (.dT kvs))/\∀ b o,H b=some o->b≠d->H2 b=some o)
  ⟨⟨none,none,rfl⟩,cf,Ab,fun b o y n=>by rw[Ar n]; exact s1 _ _ y⟩ (fun i σ H2 _ hh=>hh.2.2.1) ?_ ?_
 ·rintro i k v σ H2 t b ei ⟨⟨o2,o3,rfl⟩,ct2,hd2,kp2⟩ nt hb
  have mi:=zAF ei;have il:i<kvs.length:=(zAi.mp ei).1;obtain⟨nm,j,y,n,ekv⟩:=kf.1 _ mi;cases ekv;have nin:Pj nm j y∉(kvs.take i).map (·.1):=fun hm=>by
   have nd:=kf.2;rw[<- zBW (i+1) kvs,Bz ei,zAr,zAr,zCr] at nd;have nd1:=nd.1;rw[zCr] at nd1;exact nd1.2.2 _ hm _ (zAk.mpr rfl) rfl
  have s3:=An nt (.tup [V.ref b,.int n]);have hb3:=s3 _ _ hb;have ct3:=ct2.same s3;have hd3:=s3 _ _ hd2;have kp3:∀ c o,H c=some o->c≠d->upd H2 t (.tup [V.ref b,.int n]) c=some o:=fun b' o y n'=>s3 _ _ (kp2 b' o y n');generalize upd H2 t (.tup [V.ref b,.int n])=H3 at s3 hb3 ct3 hd3 kp3;obtain⟨⟨dx,fs,hp,b1,b2,b3⟩,_⟩:=id ct3;have en:Sr (kvs.take i) nm j y = .int 0:=by
   unfold Sr;rw[AG nin];rfl
  refine FX [some (.ref d),some (.ref p),some (.ref b),some (.int n)] rfl ?_;refine (vE rfl ⟨p,dx,fs,rfl,hp,b3,_,rfl,vI rfl rfl (SqT.of hb3) rfl (vE rfl (vI rfl rfl (SqT.of hb3) rfl (vE rfl (vI rfl rfl (SqT.of hb3) rfl (vE rfl ⟨p,kp,kvs.take i,nm,j,y,n,0,rfl,ct3,en,by rw[zAx]; lia,fun H4 s4=>?_⟩)))))⟩);have ndk4:d≠kp:=ndk;refine⟨⟨_,_,rfl⟩,?_,by rw[Ar ndk4]; exact s4 _ _ hd3,fun b' o y' n'=>?_⟩
  ·have:=(ct3.same s4).put (kvs.take (i+1))
   rw[EQ nin,Bz ei,show (0+n)=n by lia];rw[Bz ei] at this;exact this
  ·rw[Ar (Ap y' fk)]
   exact s4 _ _ (kp3 b' o y' n')
 ·rintro σ H2 ⟨⟨o2,o3,rfl⟩,ct2,hd2,kp2⟩
  rw[zAE] at ct2;refine⟨ob,hd2,_,rfl,q p kp _ (fun b o y=>?_) ?_ np fk⟩
  ·by_cases e:b=d
   ·subst e
    rw[hd] at y;cases y;exact Ab
   ·rw[Ar e]
    exact kp2 b o y e
  ·obtain⟨⟨dx,fs,e,r⟩,h1⟩:=ct2
   exact⟨⟨dx,fs,by rw[Ar ndp'.symm]; exact e,r⟩,by rw[Ar ndk.symm]; exact h1⟩
end
def BB (p:Nat×Nat):List V:=[.int p.1,.int p.2]
def Rr:Sp:=fun vs H Q _=>∃ a,∃ rows:List Rwc,vs=[.ref a]/\H a=some (.lst (rows.map El))/\(∀ x∈rows,RwcAt H x/\RwcOk x)/\rows.length<=8 /\
 ∀ r ys ps H',Same H H'->H r=none->H' r=some (.lst ys)->TsAt BB H' ys ps->(∀ p∈ps,∃ x,rows[p.1]?=some x/\∃ c,x.rs[p.2]?=some c/\c.1 = "limit")->ps.length<=100->Q (.ref r) H'
def Xo (c:AF) (m:Int):AF:=(c.1,c.2.1,c.2.2.1+m,c.2.2.2)
def Rg:Sp:=fun vs H Q _=>∃ a t,∃ rows:List Rwc,∃ p x c,∃ m:Int,vs=[.ref a,.ref t,.int m]/\H a=some (.lst (rows.map El))/\(∀ x∈rows,RwcAt H x/\RwcOk x)/\rows.length<=8/\H t=some (.tup (BB p))/\rows[p.1]?=some x/\x.rs[p.2]?=some c/\c.1 = "limit"/\0<=m/\m<=120000000231 /\
 ∀ r (rs':List Rwc) H',Same H H'->H r=none->H' r=some (.lst (rs'.map El))->(∀ x∈rs',RwcAt H' x/\R1 x)->rs'.map (·.nm)=rows.map (·.nm)->UMore ((rows.map cu).map un) ((rs'.map cu).map un)->Q (.ref r) H'
def Yn:Sp:=fun vs H Q _=>∃ a b xs ys,∃ S T:List Zz,vs=[.ref a,.ref b]/\H a=some (.lst xs)/\Sts H xs S/\H b=some (.lst ys)/\Sts H ys T/\(∀ s∈S,s.2.2.2<0->∀ t∈T,0<=t.2.2.2->¬ (t.1<s.2.1/\s.1<t.2.1))/\∀ H',Same H H'->Q (.bl true) H'
section
variable {α:Type} {f:α->List V}
theorem TsAt.app {H:Hp}:∀ {xs ys:List V} {zs us:List α},TsAt f H xs zs->TsAt f H ys us->TsAt f H (xs++ys) (zs++us)
 | [],_,[],_,_,h=>h
 | [],_,_::_,_,h,_=>h.elim
 | _::_,_,[],_,h,_=>h.elim
 | _::_,_,_::_,_,⟨h,r⟩,g=>⟨h,TsAt.app r g⟩
theorem TsAt.take {H:Hp}:∀ {xs:List V} {zs:List α} (n:Nat),TsAt f H xs zs->TsAt f H (xs.take n) (zs.take n)
 | [],[],_,_=>by rw[List.take_nil,List.take_nil]; trivial
 | [],_::_,_,h=>h.elim
 | _::_,[],_,h=>h.elim
 | _::_,_::_,0,_=>trivial
 | _::_,_::_,n+1,⟨h,r⟩=>⟨h,TsAt.take n r⟩
theorem TsAt.drop {H:Hp}:∀ {xs:List V} {zs:List α} (n:Nat),TsAt f H xs zs->TsAt f H (xs.drop n) (zs.drop n)
 | [],[],_,_=>by rw[List.drop_nil,List.drop_nil]; trivial
 | [],_::_,_,h=>h.elim
 | _::_,[],_,h=>h.elim
 | _::_,_::_,0,h=>h
 | _::_,_::_,n+1,⟨_,r⟩=>TsAt.drop n r
end
theorem M6 (xs:List V) {k:Nat} (h:k<=xs.length):Op xs none (some (k:Int))=xs.take k:=by
 unfold Op;rw[HT.sIx_nat,HT.sIx_none,List.drop_zero,Nat.sub_zero,Nat.min_eq_left h]
theorem N0 (xs:List V) {k:Nat} (h:k<=xs.length):Op xs (some (k:Int)) none=xs.drop k:=by
 unfold Op;rw[HT.sIx_nat,HT.sIx_none,Nat.min_eq_left h];exact zCs (by rw[zBn]; lia)
theorem ME {c:AF} {m:Int} (h:c.1 = "limit") (m0:0<=m):Rz (Fu c) (Fu (Xo c m)):=by
 have n1:¬ c.1 = "own" := by rw[h]; decide +kernel
 have n2:¬ c.1 = "layer" := by rw[h]; decide +kernel
 refine .inr ⟨c.2.1,c.2.2.1,c.2.2.1+m,?_,?_,by lia⟩
 ·unfold Fu
  rw[if_neg n1,if_neg n2]
 ·unfold Fu Xo
  rw[if_neg n1,if_neg n2]
theorem ES {m:Int} (m0:0<=m):∀ {rs:List AF} {k:Nat} {c:AF},rs[k]?=some c->c.1 = "limit" -> Rzs (rs.map Fu) ((rs.set k (Xo c m)).map Fu)
 | [],_,_,h,_=>by simp at h
 | c::rs,0,_,h,g=>by
  simp at h;subst h;exact⟨ME g m0,Rzs.refl _⟩
 | c::rs,k+1,_,h,g=>⟨.inl rfl,ES m0 (by simpa using h) g⟩
theorem F0 {r':Rwc}:∀ {rows:List Rwc} {i:Nat} {r:Rwc},rows[i]?=some r->Us (un (cu r)) (un (cu r'))->UMore ((rows.map cu).map un) (((rows.set i r').map cu).map un)
 | [],_,_,h,_=>by simp at h
 | r::rows,0,_,h,g=>by
  simp at h;subst h;exact .same g (UMore.refl _)
 | r::rows,i+1,_,h,g=>.same (Us.refl _) (F0 (by simpa using h) g)
theorem Zv {α:Type}:∀ {l:List α} {i:Nat} {v:α},l[i]?=some v->l.set i v=l
 | [],_,_,h=>by simp at h
 | a::l,0,v,h=>by simp at h; subst h; rfl
 | a::l,i+1,v,h=>by rw[List.set_cons_succ,Zv (by simpa using h)]
theorem U8 {α:Type} (v:α):∀ {l:List α} {k:Nat},k<l.length->l.set k v=l.take k++[v]++l.drop (k+1)
 | [],_,h=>absurd h (zBm _)
 | a::l,0,_=>rfl
 | a::l,k+1,h=>by
  rw[List.set_cons_succ,U8 v (Nat.lt_of_succ_lt_succ h)];rfl
section
seal L2.PS L2.PSs L2.PE L2.PA
variable {P:Program} {w:World} {K:zAa} {mg:Str->Option Value} {base:Heap}
theorem Rj:Bb ["_law_covers_here", "_law_places", "_law_c", "_law_k"] ["_law_covers_here"] (As Hh):=by injections
theorem Rk {f:Addr} {fd:zCC} (F:Fun K "_law_limits" "_law_limits" Hh f fd) (T:Txt K mg):FnOk P w K mg base Cu 1 f fd ["_law_covers_here"] Rr:=by
 have sc:=Rj;bv_omega
 ·obtain⟨_,_,rfl,_⟩:=h
  rfl
 obtain⟨a,rows,rfl,ha,all,l8,q⟩:=h;refine⟨_,(Ad (Bf (i:=1) sc.nd rfl (Or.inl rfl) (Cg Af))
   (Ad (Cm PassesOwn.never rfl (Cw rfl T.n_range (Aa (Bn By rfl T.n_len (show zCB _=some (.builtin "len") from rfl) (Aa (pv 0) Af)) Af)) (Az (i:=2) sc.nd rfl (Or.inl rfl))
    (Ao (Cm PassesOwn.never rfl (Cw rfl T.n_range (Aa (Bn By rfl T.n_len (show zCB _=some (.builtin "len") from rfl) (Aa (Bh Bp (Bh Bo (pv 0) (pv 2) (fun _ _=>rfl)) Ak (fun _ _=>rfl)) Af)) Af)) (Az (i:=3) sc.nd rfl (Or.inl rfl))
    (Ao (Bv (Bk Db (Bh Bp (Bh Bo (Bh Bp (Bh Bo (pv 0) (pv 2) (fun _ _=>rfl)) Ak (fun _ _=>rfl)) (pv 3) (fun _ _=>rfl)) Ak (fun _ _=>rfl)) Ca (Bm _))
    (Ao (Cp (Gi PySem.F.plainAttrs_list PySem.F.slot_list_append PySem.F.type_list_append Dm (pv 1) (Aa (Cc (Aa (pv 2) (Aa (pv 3) Af))) Af))))
    Bl)))))
   (Ao (Be (pv 1))))),?_⟩
 have two:2<=sizeLine:=by rw[zCA]; decide
 have lm:(rows.map El).length=rows.length:=zAb _;have sne:∀ {y z:Str},y≠z->¬ V.str y=V.str z:=fun h e=>h (V.str.inj e);refine⟨zAB _,fun r nr=>?_⟩;refine Dp [some (.ref a),some (.ref r),none,none] rfl ?_;have s1:=An nr (.lst []);have h1:upd H r (.lst []) r=some (.lst []):=Ab;generalize upd H r (.lst [])=H1 at s1 h1;refine (vE rfl ⟨a,_,rfl,.inl (SqL.of (s1 _ _ ha)),vE rfl ⟨by lia,by lia,?_⟩⟩);rw[show (((rows.map El).length:Int)).toNat=rows.length by lia];refine Dq (lo:=0) (n:=rows.length) (fun i σ H2=>(∃ o2 o3,σ=[some (.ref a),some (.ref r),o2,o3])/\(∃ ys ps,H2 r=some (.lst ys)/\TsAt BB H2 ys ps/\(∀ p∈ps,∃ x,rows[p.1]?=some x/\∃ c,x.rs[p.2]?=some c/\c.1 = "limit")/\ps.length<=3*i)/\Same H H2)
  ⟨⟨none,none,rfl⟩,⟨[],[],h1,trivial,(fun p hp=>nomatch hp),zAB _⟩,s1⟩ ?_ ?_
 ·rintro i σ H2 hi ⟨⟨o2,o3,rfl⟩,⟨ys,ps,hr2,ts,ok,lp⟩,s2⟩
  have er:rows[i]?=some rows[i]:=zAd hi;generalize rows[i]=x at er;obtain⟨⟨tv,cl,hl,ht,xs,g1,_,g3,g4,_,_⟩,rok⟩:=all x (zAF er);have ai:Me (rows.map El) (0+(i:Int))=some (.ref x.p):=by
   rw[show (0+(i:Int))=(i:Int) by lia];refine Dr ?_;rw[zAw,er];rfl
  have lx:=g4.len;have l3:=rok.l3;refine Dp [some (.ref a),some (.ref r),some (.int (0+(i:Int))),o3] rfl ?_;refine (vE rfl (vE rfl (vI rfl rfl (SqL.of (s2 _ _ ha)) ai (vI rfl rfl (SqT.of (s2 _ _ g1)) rfl ⟨cl,_,rfl,.inl (SqL.of (s2 _ _ g3)),vE rfl ⟨by lia,by lia,?_⟩⟩))));rw[show ((xs.length:Int)).toNat=x.rs.length by lia];refine Dq (lo:=0) (n:=x.rs.length) (fun j σ H3=>(∃ o3,σ=[some (.ref a),some (.ref r),some (.int (0+(i:Int))),o3])/\(∃ ys ps,H3 r=some (.lst ys)/\TsAt BB H3 ys ps/\(∀ p∈ps,∃ x,rows[p.1]?=some x/\∃ c,x.rs[p.2]?=some c/\c.1 = "limit")/\ps.length<=3*i+j)/\Same H H3)
   ⟨⟨o3,rfl⟩,⟨ys,ps,hr2,ts,ok,lp⟩,s2⟩ ?_ ?_
  ·rintro j σ H3 hj ⟨⟨o3,rfl⟩,⟨ys,ps,hr3,ts,ok,lp⟩,s3⟩
   have ec:x.rs[j]?=some x.rs[j]:=zAd hj;generalize x.rs[j]=c at ec;obtain⟨tc,ex,htc⟩:=g4.at ec;have aj:Me xs (0+(j:Int))=some (.ref tc):=by rw[show (0+(j:Int))=(j:Int) by lia]; exact Dr ex
   refine Dp [some (.ref a),some (.ref r),some (.int (0+(i:Int))),some (.int (0+(j:Int)))] rfl ?_;refine (vE rfl (vE rfl (vI rfl rfl (SqL.of (s3 _ _ ha)) ai (vI rfl rfl (SqT.of (s3 _ _ g1)) rfl (vE rfl (vI rfl rfl (SqL.of (s3 _ _ g3)) aj (vI rfl rfl (SqT.of (s3 _ _ htc)) rfl ⟨rfl,vE rfl ?_⟩)))))));by_cases z:c.1 = "limit"
   ·refine dT (congrArg V.str z) (vE rfl ⟨.inl ⟨rfl,_,SqL.of hr3⟩,vE rfl (vE rfl ⟨two,fun tp ntp=>?_⟩)⟩)
    have s4:=An ntp (.tup [V.int (0+(i:Int)),.int (0+(j:Int))]);have h4:upd H3 tp (.tup [V.int (0+(i:Int)),.int (0+(j:Int))]) tp=some (.tup (BB (i,j))):=by rw[Ab,Int.zero_add,Int.zero_add]; rfl
    generalize upd H3 tp (.tup [V.int (0+(i:Int)),.int (0+(j:Int))])=H4 at s4 h4;have hr4:=s4 _ _ hr3;refine⟨r,_,_,rfl,rfl,hr4,by rw[ts.len,zCA]; lia,?_⟩;refine⟨⟨_,rfl⟩,⟨_,ps++[(i,j)],Ab,((ts.mono (Bq s4)).snoc h4).mono (Df hr4 _),fun p hp=>?_,by rw[zAm,zBv]; lia⟩,fun b o y=>?_⟩
    ·rcases zAA.mp hp with g | g
     ·exact ok p g
     ·rw[zAk.mp g]
      exact⟨x,er,c,ec,z⟩
    ·rw[Ar (Ap y nr)]
     exact s4 _ _ (s3 b o y)
   ·exact dF (sne z) ⟨⟨_,rfl⟩,⟨ys,ps,hr3,ts,ok,by lia⟩,s3⟩
  ·rintro σ H3 ⟨⟨o3,rfl⟩,⟨ys,ps,hr3,ts,ok,lp⟩,s3⟩
   exact⟨⟨_,_,rfl⟩,⟨ys,ps,hr3,ts,ok,by lia⟩,s3⟩
 ·rintro σ H2 ⟨⟨o2,o3,rfl⟩,⟨ys,ps,hr2,ts,ok,lp⟩,s2⟩
  exact (vE rfl (q r ys ps H2 s2 nr hr2 ts ok (by lia)))
theorem Qt:Bb ["_law_covers_here", "_law_place", "_law_more", "_law_some", "_law_name", "_law_cond_here", "_law_clauses", "_law_houses", "_law_waits", "_law_word", "_law_by", "_law_low", "_law_high"] ["_law_covers_here", "_law_place", "_law_more"] (As Hs):=by injections
theorem Sf {f:Addr} {fd:zCC} (F:Fun K "_law_raised" "_law_raised" Hs f fd) (T:Txt K mg):FnOk P w K mg base Cu 1 f fd ["_law_covers_here", "_law_place", "_law_more"] Rg:=by
 have sc:=Qt;bv_omega
 ·obtain⟨_,_,_,_,_,_,_,rfl,_⟩:=h
  rfl
 obtain⟨a,t,rows,⟨i,k⟩,x,c,m,rfl,ha,all,l8,ht,er,ec,cl',m0,m1,q⟩:=h;refine⟨_,(Ad (Bf (i:=3) sc.nd rfl (Or.inl rfl) (Dz De rfl T.n_list (show zCB _=some (.type "list") from rfl) (Aa (pv 0) Af)))
   (Ad (Mb (Bh Bo (pv 0) (Bh Bp (pv 1) Ak (fun _ _=>rfl)) (fun _ _=>rfl)) (Dw (n:=5) rfl (Bj (Az (i:=4) sc.nd rfl (Or.inl rfl)) (Bj (Az (i:=5) sc.nd rfl (Or.inl rfl)) (Bj (Az (i:=6) sc.nd rfl (Or.inl rfl)) (Bj (Az (i:=7) sc.nd rfl (Or.inl rfl)) (Bj (Az (i:=8) sc.nd rfl (Or.inl rfl)) Da)))))))
   (Ad (Mb (Bh Bo (pv 6) (Bh Bp (pv 1) Ak (fun _ _=>rfl)) (fun _ _=>rfl)) (Dw (n:=4) rfl (Bj (Az (i:=9) sc.nd rfl (Or.inl rfl)) (Bj (Az (i:=10) sc.nd rfl (Or.inl rfl)) (Bj (Az (i:=11) sc.nd rfl (Or.inl rfl)) (Bj (Az (i:=12) sc.nd rfl (Or.inl rfl)) Da))))))
   (Ad (Bf (i:=6) sc.nd rfl (Or.inl rfl) (Ay Hv (Ay Hv (Ep Fz (pv 6) Fx (Fy (Bh Bp (pv 1) Ak (fun _ _=>rfl)))) (Cg (Aa (Cc (Aa (pv 9) (Aa (pv 10) (Aa (Ay Cd (pv 11) (pv 2)) (Aa (pv 12) Af))))) Af))) (Ep Fz (pv 6) (Fy (Ay Cd (Bh Bp (pv 1) Ak (fun _ _=>rfl)) Ak)) Fx)))
   (Ad (Mb (Cc (Aa (pv 4) (Aa (pv 5) (Aa (pv 6) (Aa (pv 7) (Aa (pv 8) Af)))))) (FS (pv 3) (Bh Bp (pv 1) Ak (fun _ _=>rfl)) E2))
   (Ao (Be (pv 3)))))))),?_⟩
 have one:1<=sizeLine:=by rw[zCA]; decide
 have lm:(rows.map El).length=rows.length:=zAb _;obtain⟨⟨tv,cl,hl,hh,xs,g1,g2,g3,g4,g5,g6⟩,rok⟩:=all x (zAF er);have il:i<rows.length:=(zAi.mp er).1;have kl:k<x.rs.length:=(zAi.mp ec).1;have lx:=g4.len;have l3:=rok.l3;have ai:Me (rows.map El) (i:Int)=some (.ref x.p):=Dr (by rw[zAw,er]; rfl);obtain⟨tc,ex,htc⟩:=g4.at ec;refine (vE rfl ⟨a,_,rfl,.inl (SqL.of ha),fun sl nsl=>?_⟩);refine Dp ([some (.ref a),some (.ref t),some (.int m),some (.ref sl)]++zAv 9 none) rfl ?_;have s1:=An nsl (.lst (rows.map El));have h1:upd H sl (.lst (rows.map El)) sl=some (.lst (rows.map El)):=Ab;generalize upd H sl (.lst (rows.map El))=H1 at s1 h1;refine (vE rfl (vE rfl (vI rfl rfl (SqT.of (s1 _ _ ht)) rfl (vI rfl rfl (SqL.of (s1 _ _ ha)) ai ⟨x.p,_,rfl,SqT.of (s1 _ _ g1),rfl,_,_,rfl,_,_,rfl,_,_,rfl,_,_,rfl,_,_,rfl,rfl,?_⟩))));refine FX ([some (.ref a),some (.ref t),some (.int m),some (.ref sl),some (.str x.nm),some tv,some (.ref cl),some (.ref hl),some (.bl x.wt)]++zAv 4 none) rfl ?_;refine (vE rfl (vE rfl (vI rfl rfl (SqT.of (s1 _ _ ht)) rfl (vI rfl rfl (SqL.of (s1 _ _ g3)) (Dr ex) ⟨tc,_,rfl,SqT.of (s1 _ _ htc),rfl,_,_,rfl,_,_,rfl,_,_,rfl,_,_,rfl,rfl,?_⟩))));refine FX [some (.ref a),some (.ref t),some (.int m),some (.ref sl),some (.str x.nm),some tv,some (.ref cl),some (.ref hl),some (.bl x.wt),some (.str c.1),some (.str c.2.1),some (.int c.2.2.1),some (.int c.2.2.2)] rfl ?_;refine (vE rfl (vE rfl (vI rfl rfl (SqT.of (s1 _ _ ht)) rfl (vE rfl ⟨cl,_,rfl,SqL.of (s1 _ _ g3),fun p1 np1=>?_⟩))))
 have e1:=M6 xs (show k<=xs.length by lia);rw[show ((i,k).2:Nat)=k from rfl,e1];have s2:=An np1 (.lst (xs.take k));have h2:upd H1 p1 (.lst (xs.take k)) p1=some (.lst (xs.take k)):=Ab;generalize upd H1 p1 (.lst (xs.take k))=H2 at s2 h2;refine (vE rfl (vE rfl (vE rfl (vE rfl (vF rfl rfl (vE rfl ⟨Ci (by show 4<=1000; decide),fun tt ntt=>?_⟩))))));have s3:=An ntt (.tup (Ll (Xo c m)));have h3:upd H2 tt (.tup (Ll (Xo c m))) tt=some (.tup (Ll (Xo c m))):=Ab;refine⟨one,fun l1 nl1=>?_⟩
 change upd H2 tt (.tup (Ll (Xo c m))) l1=none at nl1
 have s4:=An nl1 (.lst [V.ref tt]);have h4:upd (upd H2 tt (.tup (Ll (Xo c m)))) l1 (.lst [V.ref tt]) l1=some (.lst [V.ref tt]):=Ab;refine⟨p1,l1,_,_,rfl,rfl,s4 _ _ (s3 _ _ h2),h4,?_,fun p2 np2=>?_⟩
 ·rw[zAx,zBv,zCA]; lia
 change upd (upd H2 tt (.tup (Ll (Xo c m)))) l1 (.lst [V.ref tt]) p2=none at np2
 have s5:=An np2 (.lst (xs.take k++[V.ref tt]));have h5:upd (upd (upd H2 tt (.tup (Ll (Xo c m)))) l1 (.lst [V.ref tt])) p2 (.lst (xs.take k++[V.ref tt])) p2=some (.lst (xs.take k++[V.ref tt])):=Ab;have S5:=s2.trans (s3.trans (s4.trans s5));have h3':=s5 _ _ (s4 _ _ h3);refine (vE rfl (vE rfl (vI rfl rfl (SqT.of (S5 _ _ (s1 _ _ ht))) rfl (vF rfl rfl (vE rfl ⟨cl,_,rfl,SqL.of (S5 _ _ (s1 _ _ g3)),fun p3 np3=>?_⟩)))))
 change upd (upd (upd H2 tt (.tup (Ll (Xo c m)))) l1 (.lst [V.ref tt])) p2 (.lst (xs.take k++[V.ref tt])) p3=none at np3
 show NE _ _ (upd (upd (upd (upd H2 tt (.tup (Ll (Xo c m)))) l1 (.lst [V.ref tt])) p2 (.lst (xs.take k++[V.ref tt]))) p3 (.lst (Op xs (some ((k:Int)+1)) none))) _;generalize upd (upd (upd H2 tt (.tup (Ll (Xo c m)))) l1 (.lst [V.ref tt])) p2 (.lst (xs.take k++[V.ref tt]))=H5 at S5 h3' h5 np3;rw[show ((k:Int)+1)=((k+1:Nat):Int) by lia,N0 xs (show k+1<=xs.length by lia)];have s6:=An np3 (.lst (xs.drop (k+1)));have h6:upd H5 p3 (.lst (xs.drop (k+1))) p3=some (.lst (xs.drop (k+1))):=Ab;generalize upd H5 p3 (.lst (xs.drop (k+1)))=H6 at s6 h6;refine⟨p2,p3,_,_,rfl,rfl,s6 _ _ h5,h6,?_,fun p4 np4=>?_⟩
 ·rw[zAm,zAx,zBv,zBn,zCA]; lia
 have s7:=An np4 (.lst (xs.take k++[V.ref tt]++xs.drop (k+1)));have h7:upd H6 p4 (.lst (xs.take k++[V.ref tt]++xs.drop (k+1))) p4=some (.lst (xs.take k++[V.ref tt]++xs.drop (k+1))):=Ab;generalize upd H6 p4 (.lst (xs.take k++[V.ref tt]++xs.drop (k+1)))=H7 at s7 h7;have S7:=S5.trans (s6.trans s7);have S17:=s1.trans S7;have h7t:=s7 _ _ (s6 _ _ h3');have np4s:p4≠sl:=(Ap (S5.trans s6 _ _ h1) np4).symm;refine Dp [some (.ref a),some (.ref t),some (.int m),some (.ref sl),some (.str x.nm),some tv,some (.ref p4),some (.ref hl),some (.bl x.wt),some (.str c.1),some (.str c.2.1),some (.int c.2.2.1),some (.int c.2.2.2)] rfl ?_;refine (vE rfl (vE rfl (vE rfl (vE rfl (vE rfl ⟨Ci (by show 5<=1000; decide),fun tp ntp=>?_⟩)))));have s8:=An ntp (.tup [V.str x.nm,tv,.ref p4,.ref hl,.bl x.wt]);have h8:upd H7 tp (.tup [V.str x.nm,tv,.ref p4,.ref hl,.bl x.wt]) tp=some (.tup [V.str x.nm,tv,.ref p4,.ref hl,.bl x.wt]):=Ab;generalize upd H7 tp (.tup [V.str x.nm,tv,.ref p4,.ref hl,.bl x.wt])=H8 at s8 h8;have S18:=S17.trans s8;have hsl:=s8 _ _ (S7 _ _ h1);refine (vE rfl (vE rfl (vI rfl rfl (SqT.of (S18 _ _ ht)) rfl ⟨sl,_,_,i,rfl,rfl,hsl,?_,_,rfl,?_⟩)))
 ·unfold FV
  rw[if_pos (Int.natCast_nonneg _),if_pos (by rw[lm]; exact Int.ofNat_lt.mpr il)];rfl
 have em:(rows.map El).set i (V.ref tp)=(rows.set i ⟨tp,x.nm,x.t,x.rs.set k (Xo c m),x.wt⟩).map El:=by rw[List.map_set]; rfl
 rw[em];have S19:Same H (upd H8 sl (.lst ((rows.set i ⟨tp,x.nm,x.t,x.rs.set k (Xo c m),x.wt⟩).map El))):=Nm nsl S18;have up:∀ {b:Addr} {o:HO},b≠sl->H8 b=some o->upd H8 sl (.lst ((rows.set i ⟨tp,x.nm,x.t,x.rs.set k (Xo c m),x.wt⟩).map El)) b=some o:=fun n y=>by rw[Ar n]; exact y
 refine q sl _ _ S19 nsl Ab (fun y hy=>?_) ?_ (F0 er ⟨rfl,rfl,ES m0 ec cl',rfl⟩)
 ·rcases List.mem_or_eq_of_mem_set hy with g | g
  ·exact⟨(all y g).1.same S19,(all y g).2.od⟩
  ·rw[g]
   refine⟨⟨tv,p4,hl,hh,_,up (He h8 hsl (by intro e; cases e)) h8,TrAt.same S19 _ g2,up np4s (s8 _ _ h7),?_,S19 _ _ g5,S19 _ _ g6⟩,⟨rok.hg,rok.ok,by show (x.rs.set k (Xo c m)).length<=3; rw[List.length_set]; exact l3,fun d hd=>?_⟩⟩
   ·have tl:=g4.mono (Bq S19)
    have tk:=TsAt.app (TsAt.snoc (TsAt.take k tl) (z:=Xo c m) (up (He (s8 _ _ h7t) hsl (by intro e; cases e)) (s8 _ _ h7t))) (TsAt.drop (k+1) tl);show TsAt Ll _ _ (x.rs.set k (Xo c m));rw[<- U8 _ kl] at tk;exact tk
   ·rcases List.mem_or_eq_of_mem_set hd with g | g
    ·exact rok.od.oc d g
    ·rw[g]
     obtain⟨k1,k2,⟨k3,k4⟩,k5⟩:=rok.oc c (zAF ec);exact⟨k1,k2,⟨by show 0<=c.2.2.1+m; lia,by show c.2.2.1+m<=250000000000; lia⟩,fun e=>absurd (cl'.symm.trans e) (by ac_nf)⟩
 ·rw[List.map_set]
  exact Zv (by rw[zAw,er]; rfl)
theorem Lu:Bb ["_law_strips", "_law_others", "_law_lo", "_law_hi", "_law_name", "_law_k", "_law_first", "_law_upto", "_law_who", "_law_at"] ["_law_strips", "_law_others"] (As Es):=by injections
theorem Lv {f:Addr} {fd:zCC} (F:Fun K "_law_still_paid" "_law_still_paid" Es f fd) (T:Txt K mg):FnOk P w K mg base Cu 1 f fd ["_law_strips", "_law_others"] Yn:=by
 have sc:=Lu;bv_omega
 ·obtain⟨_,_,_,_,_,_,rfl,_⟩:=h
  rfl
 obtain⟨a,b,xs,ys,S,T',rfl,ha,sa,hb,sb,ap,q⟩:=h;refine⟨_,(Ad (Cm PassesOwn.never rfl (Cb (pv 0)) (Dw (n:=4) rfl (Bj (Az (i:=2) sc.nd rfl (Or.inl rfl)) (Bj (Az (i:=3) sc.nd rfl (Or.inl rfl)) (Bj (Az (i:=4) sc.nd rfl (Or.inl rfl)) (Bj (Az (i:=5) sc.nd rfl (Or.inl rfl)) Da)))))
    (Ao (Bv (Bk Fw (pv 5) Ak (Bm _))
    (Ao (Cm PassesOwn.never rfl (Cb (pv 1)) (Dw (n:=4) rfl (Bj (Az (i:=6) sc.nd rfl (Or.inl rfl)) (Bj (Az (i:=7) sc.nd rfl (Or.inl rfl)) (Bj (Az (i:=8) sc.nd rfl (Or.inl rfl)) (Bj (Az (i:=9) sc.nd rfl (Or.inl rfl)) Da)))))
    (Ao (Bv (PW.pt (Og (Bk IG (pv 9) Ak (Bm _)) (Og (Bk Fw (pv 6) (pv 3) (Bm _)) (Nl (Bk Fw (pv 2) (pv 7) (Bm _))))))
    (Ao (Be Ej))
    Bl))))
    Bl)))
   (Ao (Be Ej))),?_⟩
 refine (vE rfl ⟨a,rfl,⟨_,SqL.of ha⟩,?_⟩);refine Dg (K:=K) (a:=a) (xs:=xs) (fun i σ H2=>(∃ o2 o3 o4 o5 o6 o7 o8 o9,σ=[some (.ref a),some (.ref b),o2,o3,o4,o5,o6,o7,o8,o9])/\H2=H) ⟨⟨none,none,none,none,none,none,none,none,rfl⟩,rfl⟩ (fun i σ H2 _ hh=>by rw[hh.2]; exact SqL.of ha) ?_ ?_
 ·rintro i x σ H2 hi ⟨⟨o2,o3,o4,o5,o6,o7,o8,o9,rfl⟩,rfl⟩
  obtain⟨t,p,hp,rfl,ht⟩:=sa.get hi;refine⟨t,_,rfl,SqT.of ht,rfl,_,_,rfl,_,_,rfl,_,_,rfl,_,_,rfl,rfl,?_⟩;refine FX [some (.ref a),some (.ref b),some (.int p.1),some (.int p.2.1),some (.str p.2.2.1),some (.int p.2.2.2),o6,o7,o8,o9] rfl ?_;refine (vE rfl (vF rfl rfl (vE rfl ?_)));by_cases c0:p.2.2.2<0
  ·refine dT c0 (vE rfl ⟨b,rfl,⟨_,SqL.of hb⟩,?_⟩)
   refine Dg (K:=K) (a:=b) (xs:=ys) (fun j σ H3=>(∃ o6 o7 o8 o9,σ=[some (.ref a),some (.ref b),some (.int p.1),some (.int p.2.1),some (.str p.2.2.1),some (.int p.2.2.2),o6,o7,o8,o9])/\H3=H2) ⟨⟨o6,o7,o8,o9,rfl⟩,rfl⟩ (fun j σ H3 _ hh=>by rw[hh.2]; exact SqL.of hb) ?_ ?_
   ·rintro j y σ H3 hj ⟨⟨o6,o7,o8,o9,rfl⟩,rfl⟩
    obtain⟨t',p',hp',rfl,ht'⟩:=sb.get hj;refine⟨t',_,rfl,SqT.of ht',rfl,_,_,rfl,_,_,rfl,_,_,rfl,_,_,rfl,rfl,?_⟩;refine FX [some (.ref a),some (.ref b),some (.int p.1),some (.int p.2.1),some (.str p.2.2.1),some (.int p.2.2.2),some (.int p'.1),some (.int p'.2.1),some (.str p'.2.2.1),some (.int p'.2.2.2)] rfl ?_;have no:=ap p (zAF hp) c0 p' (zAF hp');refine (vE rfl (vF rfl rfl (vE rfl ?_)));by_cases c1:0<=p'.2.2.2
    ·refine dT c1 (vE rfl (vE rfl (vF rfl rfl (vE rfl ?_))))
     by_cases c2:p'.1<p.2.1
     ·exact dT c2 (vE rfl (vE rfl (vF rfl rfl (vE rfl (dF (fun c3=>no c1 ⟨c2,c3⟩) ⟨⟨_,_,_,_,rfl⟩,rfl⟩)))))
     ·exact dF c2 (Dy ⟨⟨_,_,_,_,rfl⟩,rfl⟩)
    ·exact dF c1 (Dy ⟨⟨_,_,_,_,rfl⟩,rfl⟩)
   ·rintro σ H3 ⟨⟨o6,o7,o8,o9,rfl⟩,rfl⟩
    exact⟨⟨_,_,_,_,_,_,_,_,rfl⟩,rfl⟩
  ·exact dF c0 ⟨⟨_,_,_,_,_,_,_,_,rfl⟩,rfl⟩
 ·rintro σ H2 ⟨⟨o2,o3,o4,o5,o6,o7,o8,o9,rfl⟩,rfl⟩
  exact q _ (Same.refl _)
end
theorem HZ {A B:TS} {D:Nj} {σ:St} {H:Hp} (M:St->Hp->Prop) (h1:∀ N:St->Hp->Prop,(∀ σ H,M σ H->N σ H)->A { D with nx:=N } σ H) (h2:∀ σ H,M σ H->B D σ H):JZ A B D σ H:=h1 _ h2
theorem UMore.nils:∀ l:List U4,UMore [] l
 | []=>.nil
 | _::l=>.add (UMore.nils l)
theorem Nms.sub {ns ms:List Str} (h:Nms ns) (l:ms.length<=8) (nd:ms.Nodup) (s:∀ z∈ms,z∈ns):Nms ms:=⟨l,nd,fun z hz=>h.ok z (s z hz)⟩
theorem AE {α:Type} (rows:List α) (n k:Nat):((rows.take n).take k++rows.drop n++(rows.take n).drop k).Perm rows:=by
 have p1:((rows.take n).take k++rows.drop n++(rows.take n).drop k).Perm ((rows.take n).take k++(rows.take n).drop k++rows.drop n):=by
  rw[zBA,zBA];exact List.Perm.append_left _ List.perm_append_comm
 rw[zBW,zBW] at p1;exact p1
section
variable {P:Program} {w:World} {K:zAa} {mg:Str->Option Value} {base:Heap} {Ac Ah Ag Am Au Bc Ba At Ae Aw Al Aj Bg Ai Bd Aq:Addr}
theorem JP:Bb ["_law_script", "_law_unit_here", "_law_world_here", "_law_many", "_law_names_here", "_law_drawn", "_law_covers_here", "_law_place", "_law_more", "_law_limits_here", "_law_cell_here", "_law_books", "_law_losses_here", "_law_j", "_law_counts_here", "_law_strips", "_law_others"] ["_law_script"] (As Sb):=by injections
theorem KA {f:Addr} {fd:zCC} (F:Fun K "law" "law" Sb f fd) (T:Txt K mg) (L:Kl K mg Ac Ah Ag Am Au Bc Ba At Ae Aw Al Aj Bg Ai Bd Aq) (C_law_cell:Cn P w K mg base 1 "_law_cell" ["_law_script", "_law_k"] (Oo K)) (C_law_spread:Cn P w K mg base 1 "_law_spread" ["_law_cell_here"] Ia) (C_law_names:Cn P w K mg base 1 "_law_names" ["_law_cell_here", "_law_many"] Qk) (C_law_amount:Cn P w K mg base 1 "_law_amount" ["_law_digit", "_law_unit_here"] Vr) (C_law_unit:Cn P w K mg base 2 "_law_unit" ["_law_script"] (M1 K)) (C_law_world:Cn P w K mg base 2 "_law_world" ["_law_script", "_law_most"] (Wu K))
  (C_law_covers:Cn P w K mg base 3 "_law_covers" ["_law_script", "_law_names_here", "_law_things", "_law_causes", "_law_unit_here"] (G0 K)) (C_law_book:Cn P w K mg base 8 "_law_book" ["_law_covers_here"] (Yg (A8.mk Ac Ah Ag Am Au Bc Ba At) Ae Aw Al Aj Ai Bd)) (C_law_losses:Cn P w K mg base 2 "_law_losses" ["_law_script", "_law_many", "_law_world_here", "_law_unit_here"] (Rx K))
  (C_law_state:Cn P w K mg base 2 "_law_state" ["_law_covers_here", "_law_loss_here", "_law_cell_here", "_law_unit_here"] Wx) (C_law_counts:Cn P w K mg base 3 "_law_counts" ["_law_had_of"] (M5 Aq)) (Cstrips_of:Cn P w K mg base 7 "strips_of" ["book", "counts", "loss"] (Tf (A8.mk Ac Ah Ag Am Au Bc Ba At) Ae Aw Al Aj Ai Bd Aq)) (C_law_form:Cn P w K mg base 2 "_law_form" ["_law_strips", "_law_cents"] M3)
  (C_law_limits:Cn P w K mg base 1 "_law_limits" ["_law_covers_here"] Rr) (C_law_raised:Cn P w K mg base 1 "_law_raised" ["_law_covers_here", "_law_place", "_law_more"] Rg) (C_law_still_paid:Cn P w K mg base 1 "_law_still_paid" ["_law_strips", "_law_others"] Yn) :
  FnOk P w K mg base Cu 9 f fd ["_law_script"] (U9 K):=by
 have sc:=JP;bv_omega
 ·obtain⟨_,_,rfl,_⟩:=h
  rfl
 have hu64:=U0 hr;have hu:=KD hr;have hu0:=hr.units0;obtain⟨a,ns,rfl,ha,l63,q⟩:=h;refine⟨_,(Ad (Bf (i:=1) sc.nd rfl (Or.inl rfl) (Ax C_law_unit (hr.mono (by decide)) rfl (Aa (pv 0) Af)))
   (Ad (Bf (i:=2) sc.nd rfl (Or.inl rfl) (Ax C_law_world (hr.mono (by decide)) rfl (Aa (pv 0) (Aa Ak Af))))
   (Ad (Bf (i:=3) sc.nd rfl (Or.inl rfl) (Bn By rfl T.n_len (show zCB _=some (.builtin "len") from rfl) (Aa (Bh Bo (pv 2) Ak (fun _ _=>rfl)) Af)))
   (Ad (Bf (i:=4) sc.nd rfl (Or.inl rfl) (Ax C_law_names (hr.mono (by decide)) rfl (Aa (Ax C_law_spread (hr.mono (by decide)) rfl (Aa (Ax C_law_cell (hr.mono (by decide)) rfl (Aa (pv 0) (Aa Ak Af))) Af)) (Aa (Ay Cd (pv 3) Ak) Af))))
   (Ad (Bf (i:=5) sc.nd rfl (Or.inl rfl) (Ax C_law_covers (hr.mono (by decide)) rfl (Aa (pv 0) (Aa (pv 4) (Aa (Bh Bo (pv 2) Ak (fun _ _=>rfl)) (Aa (Bh Bo (pv 2) Ak (fun _ _=>rfl)) (Aa (pv 1) Af)))))))
   (Ad (Bf (i:=6) sc.nd rfl (Or.inl rfl) (Ep Fz (pv 5) Fx (Fy (pv 3))))
   (Ad (Bf (i:=7) sc.nd rfl (Or.inl rfl) (Ay Bu (Ax C_law_cell (hr.mono (by decide)) rfl (Aa (pv 0) (Aa Ak Af))) (Ay Cd (pv 3) Ak)))
   (Ad (Bf (i:=8) sc.nd rfl (Or.inl rfl) (Ay Hv (Ay Hv (Ep Fz (pv 6) Fx (Fy (pv 7))) (Ep Fz (pv 5) (Fy (pv 3)) Fx)) (Ep Fz (pv 6) (Fy (pv 7)) Fx)))
   (Ad (Bf (i:=9) sc.nd rfl (Or.inl rfl) (Ax C_law_limits (hr.mono (by decide)) rfl (Aa (pv 6) Af)))
   (Ad (Bf (i:=10) sc.nd rfl (Or.inl rfl) (Ax C_law_spread (hr.mono (by decide)) rfl (Aa (Ay Cd (Ax C_law_cell (hr.mono (by decide)) rfl (Aa (pv 0) (Aa Ak Af))) Ak) Af)))
   (Ad (Bv (PW.pt (Og (Bk (KI hu0) (pv 9) (Cg Af) (Bm _)) (Nl (Bk Db (Ay Bu (pv 10) Ak) Ak (Bm _)))))
    (Ao (Bf (i:=8) sc.nd rfl (Or.inl rfl) (Ax C_law_raised (hr.mono (by decide)) rfl (Aa (pv 6) (Aa (Bh Bo (pv 9) (Ay Bu (Ay Bw (pv 10) Ak) (Bn By rfl T.n_len (show zCB _=some (.builtin "len") from rfl) (Aa (pv 9) Af))) (fun _ _=>rfl)) (Aa (Ay Cd Ak (Ax C_law_amount (hr.mono (by decide)) rfl (Aa (Ay Bu (Ay Bw (pv 10) Ak) Ak) (Aa (pv 1) Af)))) Af))))))
    Bl)
   (Ad (Bf (i:=11) sc.nd rfl (Or.inl rfl) (Cg (Aa (Ax C_law_book (hr.mono (by decide)) rfl (Aa (pv 6) Af)) (Aa (Ax C_law_book (hr.mono (by decide)) rfl (Aa (pv 8) Af)) Af))))
   (Ad (Bf (i:=12) sc.nd rfl (Or.inl rfl) (Ax C_law_losses (hr.mono (by decide)) rfl (Aa (pv 0) (Aa Ak (Aa (pv 2) (Aa (pv 1) Af))))))
   (Ad (Cm PassesOwn.never rfl (Cw rfl T.n_range (Aa (Bn By rfl T.n_len (show zCB _=some (.builtin "len") from rfl) (Aa (pv 12) Af)) Af)) (Az (i:=13) sc.nd rfl (Or.inl rfl))
    (Ad (Bf (i:=14) sc.nd rfl (Or.inl rfl) (Ax C_law_counts (hr.mono (by decide)) rfl (Aa (Ax C_law_state (hr.mono (by decide)) rfl (Aa (pv 5) (Aa (Bh Bo (pv 12) (pv 13) (fun _ _=>rfl)) (Aa (Ax C_law_cell (hr.mono (by decide)) rfl (Aa (pv 0) (Aa (pv 13) Af))) (Aa (pv 1) Af))))) Af)))
   (Ad (Bf (i:=15) sc.nd rfl (Or.inl rfl) (Ax Cstrips_of (hr.mono (by decide)) rfl (Aa (Bh Bo (pv 11) Ak (fun _ _=>rfl)) (Aa (pv 14) (Aa (Bh Bo (pv 12) (pv 13) (fun _ _=>rfl)) Af)))))
   (Ad (Bf (i:=16) sc.nd rfl (Or.inl rfl) (Ax Cstrips_of (hr.mono (by decide)) rfl (Aa (Bh Bo (pv 11) Ak (fun _ _=>rfl)) (Aa (pv 14) (Aa (Bh Bo (pv 12) (pv 13) (fun _ _=>rfl)) Af)))))
   (Ad (Bv (PW.pt (Hg (Dh (Cy (Ax C_law_form (hr.mono (by decide)) rfl (Aa (pv 15) (Aa (Bh Bp (Bh Bo (pv 12) (pv 13) (fun _ _=>rfl)) Ak (fun _ _=>rfl)) Af))))) (Gj (Dh (Cy (Ax C_law_form (hr.mono (by decide)) rfl (Aa (pv 16) (Aa (Bh Bp (Bh Bo (pv 12) (pv 13) (fun _ _=>rfl)) Ak (fun _ _=>rfl)) Af))))))))
    (Ao (Be Ej))
    Bl)
   (Ao (Bv (Dh (Cy (Ax C_law_still_paid (hr.mono (by decide)) rfl (Aa (pv 15) (Aa (pv 16) Af)))))
    (Ao (Be Ej))
    Bl)))))))
   (Ao (Be Ej)))))))))))))))),?_⟩
 have one:1<=sizeLine:=by rw[zCA]; decide
 have two:2<=sizeLine:=by rw[zCA]; decide
 refine (vE rfl ⟨a,ns,rfl,ha,l63,fun u H1 s1 uo=>?_⟩);refine Dp ([some (.ref a),some (.int u)]++zAv 15 none) rfl ?_;refine (vE rfl ⟨a,ns,rfl,s1.seq ha,l63,fun wl A B C D0 H2 s2 wa W=>?_⟩);obtain⟨la,lb,lc,ld,hw,hwa,hwb,hwc,hwd⟩:=id wa;have S2:=s1.trans s2;have l0:=W.ld;refine (vE rfl (vI rfl rfl (SqL.of hw) rfl ⟨ld,_,rfl,.inl (SqL.of hwd),?_⟩));rw[zAb];refine Dp ([some (.ref a),some (.int u),some (.ref wl),some (.int (D0.length:Int))]++zAv 13 none) rfl ?_;generalize D0.length=n at l0;refine (vE rfl ⟨a,ns,1,rfl,S2.seq ha,by decide,l63,vE rfl (fun r r0 r1=>(vE rfl (vF rfl rfl ⟨r,_,rfl,r0,by lia,by lia,fun nl D H3 s3 nnl hnl N lD=>?_⟩)))⟩);have lD:D.length=n+1:=by lia
 refine Dp ([some (.ref a),some (.int u),some (.ref wl),some (.int (n:Int)),some (.ref nl)]++zAv 12 none) rfl ?_;have S3:=S2.trans s3;refine (vE rfl (vE rfl (vE rfl (vI rfl rfl (SqL.of (s3 _ _ hw)) rfl (vE rfl (vI rfl rfl (SqL.of (s3 _ _ hw)) rfl (vE rfl ⟨a,ns,nl,lb,lc,u,B,C,D,rfl,S3.seq ha,l63,uo,hnl,s3 _ _ hwb,s3 _ _ hwc,W.lb,W.lc,fun z hz=>IY (W.b.ok z hz).1,fun z hz=>IY (W.c.ok z hz).1,by lia,fun dl rows H4 s4 ndl hrows all enm=>?_⟩)))))));have lrows:rows.length=n+1:=by rw[<- lD,<- enm,zAb]
 have lm:(rows.map El).length=n+1:=by rw[zAb]; exact lrows
 refine Dp ([some (.ref a),some (.int u),some (.ref wl),some (.int (n:Int)),some (.ref nl),some (.ref dl)]++zAv 11 none) rfl ?_;have S4:=S3.trans s4;refine (vE rfl (vE rfl (vE rfl ⟨dl,_,rfl,SqL.of hrows,fun cl ncl=>?_⟩)));rw[M6 _ (show n<=(rows.map El).length by lia),<- List.map_take];refine Dp ([some (.ref a),some (.int u),some (.ref wl),some (.int (n:Int)),some (.ref nl),some (.ref dl),some (.ref cl)]++zAv 10 none) rfl ?_;have s5:=An ncl (.lst ((rows.take n).map El));have hcl:upd H4 cl (.lst ((rows.take n).map El)) cl=some (.lst ((rows.take n).map El)):=Ab;generalize upd H4 cl (.lst ((rows.take n).map El))=H5 at s5 hcl;have S5:=S4.trans s5;have lcov:(rows.take n).length=n:=by rw[zAx]; lia
 have lcm:((rows.take n).map El).length=n:=by rw[zAb]; exact lcov
 have hrows5:=s5 _ _ hrows;have all5:∀ x∈rows,RwcAt H5 x/\RwcOk x:=fun x hx=>⟨(all x hx).1.same s5,(all x hx).2⟩;refine (vE rfl ⟨a,ns,0,rfl,S5.seq ha,by decide,l63,vE rfl (vF rfl rfl (vF rfl rfl ⟨by lia,?_⟩))⟩);obtain⟨k,ek,kn⟩:∃ k:Nat,ns.getD (0:Int).toNat 0%((n:Int)+1)=(k:Int)/\k<=n:=by
  have h1:=Int.emod_nonneg (ns.getD (0:Int).toNat 0) (show ((n:Int)+1)≠0 by lia);have h2:=Int.emod_lt_of_pos (ns.getD (0:Int).toNat 0) (show (0:Int)<(n:Int)+1 by lia);exact⟨(ns.getD (0:Int).toNat 0%((n:Int)+1)).toNat,by lia,by lia⟩
 refine Dp ([some (.ref a),some (.int u),some (.ref wl),some (.int (n:Int)),some (.ref nl),some (.ref dl),some (.ref cl),some (.int (ns.getD (0:Int).toNat 0%((n:Int)+1)))]++zAv 9 none) rfl ?_;rw[ek];refine (vE rfl (vE rfl (vE rfl ⟨cl,_,rfl,SqL.of hcl,fun m1 nm1=>?_⟩)));rw[M6 _ (show k<=((rows.take n).map El).length by lia),<- List.map_take];have s6:=An nm1 (.lst (((rows.take n).take k).map El));have h6:upd H5 m1 (.lst (((rows.take n).take k).map El)) m1=some (.lst (((rows.take n).take k).map El)):=Ab;generalize upd H5 m1 (.lst (((rows.take n).take k).map El))=H6 at s6 h6;refine (vE rfl (vE rfl (vE rfl ⟨dl,_,rfl,SqL.of (s6 _ _ hrows5),fun m2 nm2=>?_⟩)));rw[N0 _ (show n<=(rows.map El).length by lia),<- List.map_drop];have s7:=An nm2 (.lst ((rows.drop n).map El));have h7:upd H6 m2 (.lst ((rows.drop n).map El)) m2=some (.lst ((rows.drop n).map El)):=Ab;generalize upd H6 m2 (.lst ((rows.drop n).map El))=H7 at s7 h7;refine⟨m1,m2,_,_,rfl,rfl,s7 _ _ h6,h7,by rw[zAb,zAb,zAx,zBn,zCA]; lia,fun m3 nm3=>?_⟩;rw[<- zAr];have s8:=An nm3 (.lst (((rows.take n).take k++rows.drop n).map El));have h8:upd H7 m3 (.lst (((rows.take n).take k++rows.drop n).map El)) m3=some (.lst (((rows.take n).take k++rows.drop n).map El)):=Ab;generalize upd H7 m3 (.lst (((rows.take n).take k++rows.drop n).map El))=H8 at s8 h8;have S8:=s6.trans (s7.trans s8);refine (vE rfl (vE rfl (vE rfl ⟨cl,_,rfl,SqL.of (S8 _ _ hcl),fun m4 nm4=>?_⟩)));rw[N0 _ (show k<=((rows.take n).map El).length by lia),<- List.map_drop]
 have s9:=An nm4 (.lst (((rows.take n).drop k).map El));have h9:upd H8 m4 (.lst (((rows.take n).drop k).map El)) m4=some (.lst (((rows.take n).drop k).map El)):=Ab;generalize upd H8 m4 (.lst (((rows.take n).drop k).map El))=H9 at s9 h9;refine⟨m3,m4,_,_,rfl,rfl,s9 _ _ h8,h9,by rw[zAb,zAb,zAm,zAx,zBn,zBn,zCA]; lia,fun ml nml=>?_⟩;rw[<- zAr];have s10:=An nml (.lst (((rows.take n).take k++rows.drop n++(rows.take n).drop k).map El));have hml:upd H9 ml (.lst (((rows.take n).take k++rows.drop n++(rows.take n).drop k).map El)) ml=some (.lst (((rows.take n).take k++rows.drop n++(rows.take n).drop k).map El)):=Ab;generalize upd H9 ml (.lst (((rows.take n).take k++rows.drop n++(rows.take n).drop k).map El))=H10 at s10 hml;refine Dp ([some (.ref a),some (.int u),some (.ref wl),some (.int (n:Int)),some (.ref nl),some (.ref dl),some (.ref cl),some (.int (k:Int)),some (.ref ml)]++zAv 8 none) rfl ?_;have S10:=S8.trans (s9.trans s10);have covIn:∀ x∈rows.take n,x∈rows:=fun x hx=>List.mem_of_mem_take hx;have allc:∀ x∈rows.take n,RwcAt H10 x/\RwcOk x:=fun x hx=>⟨(all5 x (covIn x hx)).1.same S10,(all5 x (covIn x hx)).2⟩;have pm:=AE rows n k;have NmI:Nms (((rows.take n).take k++rows.drop n++(rows.take n).drop k).map (·.nm)):=by
  have p2:=pm.map (fun x:Rwc=>x.nm);refine N.sub (by rw[zAb,pm.length_eq]; lia) (p2.nodup_iff.mpr (by rw[enm]; exact N.nd)) fun z hz=>?_;rw[<- enm];exact p2.mem_iff.mp hz
 have NmC:Nms ((rows.take n).map (·.nm)):=N.sub (by rw[zAb,lcov]; lia) ((show (rows.map (·.nm)).Nodup by rw[enm]; exact N.nd).sublist ((List.take_sublist n rows).map _)) fun z hz=>by
  obtain⟨x,hx,e⟩:=zAy.mp hz;rw[<- enm];exact zAy.mpr ⟨x,covIn x hx,e⟩
 have um:UMore (((rows.take n).map cu).map un) ((((rows.take n).take k++rows.drop n++(rows.take n).drop k).map cu).map un):=by
  have e:=UMore.app (UMore.app (UMore.refl ((((rows.take n).take k).map cu).map un)) (UMore.nils (((rows.drop n).map cu).map un))) (UMore.refl ((((rows.take n).drop k).map cu).map un));rw[zAY,<- zAr,<- zAr,zBW,<- zAr,<- zAr,<- zAr,<- zAr] at e;exact e
 refine (vE rfl ⟨cl,rows.take n,rfl,S10 _ _ hcl,allc,by lia,fun ll ys ps H11 s11 nll hll tps okp lps=>?_⟩);refine Dp ([some (.ref a),some (.int u),some (.ref wl),some (.int (n:Int)),some (.ref nl),some (.ref dl),some (.ref cl),some (.int (k:Int)),some (.ref ml),some (.ref ll)]++zAv 7 none) rfl ?_;have S11:=S10.trans s11;refine (vE rfl ⟨a,ns,1,rfl,(S5.trans S11).seq ha,by decide,l63,vF rfl rfl (vE rfl (fun ce ce0 ce1=>?_))⟩);refine Dp ([some (.ref a),some (.int u),some (.ref wl),some (.int (n:Int)),some (.ref nl),some (.ref dl),some (.ref cl),some (.int (k:Int)),some (.ref ml),some (.ref ll),some (.int ce)]++zAv 6 none) rfl ?_
 dsimp only
 refine HZ (A:=MY _ _ _) (fun σ H12=>∃ ml,∃ rows2:List Rwc,σ=[some (.ref a),some (.int u),some (.ref wl),some (.int (n:Int)),some (.ref nl),some (.ref dl),some (.ref cl),some (.int (k:Int)),some (.ref ml),some (.ref ll),some (.int ce)]++zAv 6 none/\H12 ml=some (.lst (rows2.map El))/\(∀ x∈rows2,RwcAt H12 x/\R1 x)/\Nms (rows2.map (·.nm))/\UMore (((rows.take n).map cu).map un) ((rows2.map cu).map un)/\Same H11 H12) (fun N' hN=>?_) ?_
 ·refine (vE rfl ⟨zAB _,fun l1 n1=>⟨ll,l1,_,rfl,rfl,SqL.of (An n1 _ _ _ hll),SqL.of Ab,vE rfl ?_⟩⟩)
  have s12:=An n1 (.lst []);generalize upd H11 l1 (.lst [])=H12 at s12;have base':N' ([some (.ref a),some (.int u),some (.ref wl),some (.int (n:Int)),some (.ref nl),some (.ref dl),some (.ref cl),some (.int (k:Int)),some (.ref ml),some (.ref ll),some (.int ce)]++zAv 6 none) H12:=hN _ _ ⟨ml,_,rfl,s12 _ _ (s11 _ _ hml),fun x hx=>by
   have y:=all5 x (pm.mem_iff.mp hx);exact⟨y.1.same (S11.trans s12),y.2.od⟩,NmI,um,s12⟩
  cases ys with
  | nil=>exact Dy (Dy base')
  | cons y ys=>
   refine Po (vE rfl (vF rfl rfl ⟨(by show (0:Int)<2; decide),rfl,vE rfl ?_⟩));by_cases c2:V.int (ce%2)=V.int 1
   ·have lp:(0:Int)<((y::ys).length:Int):=by rw[zAf]; lia
    obtain⟨j,ej,jl⟩:∃ j:Nat,ce/2%((y::ys).length:Int)=(j:Int)/\j<(y::ys).length:=by
     have h1:=Int.emod_nonneg (ce/2) (show ((y::ys).length:Int)≠0 by lia);have h2:=Int.emod_lt_of_pos (ce/2) lp;exact⟨(ce/2%((y::ys).length:Int)).toNat,by lia,by lia⟩
    obtain⟨t,p,hp,ey,htp⟩:=tps.get (zAd jl);have aj:Me (y::ys) (ce/2%((y::ys).length:Int))=some (.ref t):=by
     rw[ej];exact Dr (by rw[zAd jl,ey])
    obtain⟨x,hx,c,hc,hl⟩:=okp p (zAF hp);refine dT c2 (vE rfl (vE rfl (vE rfl (vF rfl rfl ⟨⟨by decide,by decide⟩,_,rfl,ll,_,rfl,.inl (SqL.of (s12 _ _ hll)),vF rfl rfl ⟨lp,vI rfl rfl (SqL.of (s12 _ _ hll)) aj (vE rfl (vF rfl rfl ⟨⟨by decide,by decide⟩,_,_,rfl,rfl,(by show (0:Int)<39; decide),_,rfl,_,u,rfl,by lia,uo,fun m m0 m1=>(vF rfl rfl ⟨cl,t,rows.take n,p,x,c,1+m,rfl,s12 _ _ (S11 _ _ hcl),fun x hx=>⟨(all5 x (covIn x hx)).1.same (S11.trans s12),(all5 x (covIn x hx)).2⟩,by lia,s12 _ _ htp,hx,hc,hl,by lia,by lia,fun ml' rs' H13 s13 nml' hml' all' enm' um'=>?_⟩)⟩))⟩⟩))));refine Dp ([some (.ref a),some (.int u),some (.ref wl),some (.int (n:Int)),some (.ref nl),some (.ref dl),some (.ref cl),some (.int (k:Int)),some (.ref ml'),some (.ref ll),some (.int ce)]++zAv 6 none) rfl ?_;exact hN _ _ ⟨ml',rs',rfl,hml',all',by rw[enm']; exact NmC,um',s12.trans s13⟩
   ·exact dF c2 base'
 rintro σ H12 ⟨ml,rows2,rfl,hml2,all2,Nm2,um2,s12⟩;have S12:=S11.trans s12;clear S10 hml s11 tps hll s10 h9 s9 h8 s8 h7 s7 h6 s6 S8 allc um NmI pm hrows;refine (vE rfl ⟨cl,rows.take n,rfl,S12 _ _ hcl,fun x hx=>⟨(all5 x (covIn x hx)).1.same S12,(all5 x (covIn x hx)).2.od⟩,NmC,fun bk bcl bak cvs H13 s13 B1 cv1 eun1=>(vE rfl ⟨ml,rows2,rfl,s13 _ _ hml2,fun x hx=>⟨(all2 x hx).1.same s13,(all2 x hx).2⟩,Nm2,fun bk2 bcl2 bak2 cvs2 H14 s14 B2 cv2 eun2=>⟨two,fun bl nbl=>?_⟩⟩)⟩);have s15:=An nbl (.lst [V.ref bk,.ref bk2]);have hbl:upd H14 bl (.lst [V.ref bk,.ref bk2]) bl=some (.lst [V.ref bk,.ref bk2]):=Ab;generalize upd H14 bl (.lst [V.ref bk,.ref bk2])=H15 at s15 hbl;refine Dp ([some (.ref a),some (.int u),some (.ref wl),some (.int (n:Int)),some (.ref nl),some (.ref dl),some (.ref cl),some (.int (k:Int)),some (.ref ml),some (.ref ll),some (.int ce),some (.ref bl)]++zAv 5 none) rfl ?_;have S15:=S12.trans (s13.trans (s14.trans s15));have wa15:=wa.same (s3.trans (s4.trans (s5.trans S15)));refine (vE rfl (vE rfl (vE rfl ⟨a,ns,6,u,wl,A,B,C,D0,rfl,(S5.trans S15).seq ha,l63,by decide,uo,wa15,W,fun ls xs zs H16 s16 nls hls lfs lz zpos=>?_⟩)));refine Dp ([some (.ref a),some (.int u),some (.ref wl),some (.int (n:Int)),some (.ref nl),some (.ref dl),some (.ref cl),some (.int (k:Int)),some (.ref ml),some (.ref ll),some (.int ce),some (.ref bl),some (.ref ls)]++zAv 4 none) rfl ?_;have S16:=S15.trans s16;have ha16:SqL K H16 a (ns.map V.int):=(S5.trans S16).seq ha;have hrows16:=S16 _ _ hrows5
 have all16:∀ x∈rows,RwcAt H16 x/\RwcOk x:=fun x hx=>⟨(all5 x hx).1.same S16,(all5 x hx).2⟩;have hbl16:=s16 _ _ hbl;have ask1:=BJ (B1.same (s14.trans (s15.trans s16))) fun x hx=>(cv1 x hx).1.same (s14.trans (s15.trans s16));have ask2:=BJ (B2.same (s15.trans s16)) fun x hx=>(cv2 x hx).1.same (s15.trans s16);have eask1:=FN eun1;have eask2:=FN eun2;have nd1:((Hc cvs).map (·.nm)).Nodup:=IN eask1 NmC.nd;have nd2:((Hc cvs2).map (·.nm)).Nodup:=IN eask2 Nm2.nd;have hm1:∀ x∈Hc cvs,Ow x.t<4:=fun x hx=>by
  obtain⟨r,hr',e⟩:=DB eask1 x hx;have e':x.t=r.t:=congrArg (·.2.1) e;rw[e'];have:=(all5 r (covIn r hr')).2.hg
  lia
 have hm2:∀ x∈Hc cvs2,Ow x.t<4:=fun x hx=>by
  obtain⟨r,hr',e⟩:=DB eask2 x hx;have e':x.t=r.t:=congrArg (·.2.1) e;rw[e'];have:=(all2 r hr').2.hg
  lia
 have lb1:=BF eask1;have lb2:=BF eask2;have l82:rows2.length<=8:=by have:=Nm2.hi; rwa [zAb] at this
 have lx:=lfs.len;have um3:UMore (cvs.map un) (cvs2.map un):=by rw[eun1,eun2]; exact um2
 clear S16 S15 S12 S11 s12 s13 s14 s15 s16 wa15 wa B1 B2 cv1 cv2 all2 all5 hml2 hcl all nbl nls hbl hw hwa hwb hwc hwd hnl ncl nml nm1 nm2 nm3 nm4 ndl nnl nll;refine (vE rfl ⟨ls,_,rfl,.inl (SqL.of hls),vE rfl ⟨by lia,by lia,?_⟩⟩);rw[show ((xs.length:Int)).toNat=zs.length by lia];refine Dq (lo:=0) (n:=zs.length) (fun i σ H17=>(∃ o13 o14 o15 o16,σ=[some (.ref a),some (.int u),some (.ref wl),some (.int (n:Int)),some (.ref nl),some (.ref dl),some (.ref cl),some (.int (k:Int)),some (.ref ml),some (.ref ll),some (.int ce),some (.ref bl),some (.ref ls),o13,o14,o15,o16])/\Same H16 H17)
  ⟨⟨none,none,none,none,rfl⟩,Same.refl _⟩ ?_ ?_
 ·rintro i σ H17 hi ⟨⟨o13,o14,o15,o16,rfl⟩,s17⟩
  have ez:zs[i]?=some zs[i]:=zAd hi;have zp:=zpos zs[i] (zAZ hi);generalize zs[i]=z at ez zp;have hxi:xs[i]?=some (xs[i]'(by lia)):=zAd _;obtain⟨l,z',ez',exi,hl⟩:=lfs.get hxi;rw[ez] at ez';cases ez';rw[exi] at hxi;have aj:Me xs (0+(i:Int))=some (.ref l):=by rw[show (0+(i:Int))=(i:Int) by lia]; exact Dr hxi
  refine Dp [some (.ref a),some (.int u),some (.ref wl),some (.int (n:Int)),some (.ref nl),some (.ref dl),some (.ref cl),some (.int (k:Int)),some (.ref ml),some (.ref ll),some (.int ce),some (.ref bl),some (.ref ls),some (.int (0+(i:Int))),o14,o15,o16] rfl ?_;refine (vE rfl (vE rfl (vE rfl (vI rfl rfl (SqL.of (s17 _ _ hls)) aj (vE rfl (vE rfl ⟨a,ns,_,rfl,s17.seq ha16,by lia,l63,vE rfl ⟨dl,l,rows,z,_,u,rfl,s17 _ _ hrows16,fun x hx=>⟨(all16 x hx).1.same s17,(all16 x hx).2⟩,by lia,s17 _ _ hl,uo,fun d kvs H18 s18 nd' hd kf lk hall=>⟨d,kvs,rfl,hd,kf,by lia,fun p kp H19 s19 ct np nkp=>?_⟩⟩⟩))))));refine Dp [some (.ref a),some (.int u),some (.ref wl),some (.int (n:Int)),some (.ref nl),some (.ref dl),some (.ref cl),some (.int (k:Int)),some (.ref ml),some (.ref ll),some (.int ce),some (.ref bl),some (.ref ls),some (.int (0+(i:Int))),some (.ref p),o15,o16] rfl ?_;have S19:=s17.trans (s18.trans s19);have iv:=kf.int;refine (vE rfl (vI rfl rfl (SqL.of (S19 _ _ hbl16)) rfl (vE rfl (vE rfl (vE rfl (vI rfl rfl (SqL.of (S19 _ _ hls)) aj ⟨bk,p,kp,kvs,l,z,Hc cvs,rfl,ask1.same S19,hm1,by lia,nd1,ct,iv,S19 _ _ hl,zp,fun r ys1 S H20 s20 nr hr20 sts so l64=>?_⟩))))));refine Dp [some (.ref a),some (.int u),some (.ref wl),some (.int (n:Int)),some (.ref nl),some (.ref dl),some (.ref cl),some (.int (k:Int)),some (.ref ml),some (.ref ll),some (.int ce),some (.ref bl),some (.ref ls),some (.int (0+(i:Int))),some (.ref p),some (.ref r),o16] rfl ?_;have S20:=S19.trans s20;refine (vE rfl (vI rfl rfl (SqL.of (S20 _ _ hbl16)) rfl (vE rfl (vE rfl (vE rfl (vI rfl rfl (SqL.of (S20 _ _ hls)) aj ⟨bk2,p,kp,kvs,l,z,Hc cvs2,rfl,ask2.same S20,hm2,by lia,nd2,ct.same s20,iv,S20 _ _ hl,zp,fun r2 ys2 S2 H21 s21 nr2 hr21 sts2 so2 l642=>?_⟩))))))
  refine Dp [some (.ref a),some (.int u),some (.ref wl),some (.int (n:Int)),some (.ref nl),some (.ref dl),some (.ref cl),some (.int (k:Int)),some (.ref ml),some (.ref ll),some (.int ce),some (.ref bl),some (.ref ls),some (.int (0+(i:Int))),some (.ref p),some (.ref r),some (.ref r2)] rfl ?_;have S21:=S20.trans s21;have fo:=Pf so (nd1.sublist (List.Sublist.map _ (List.filter_sublist))) zp;have fo2:=Pf so2 (nd2.sublist (List.Sublist.map _ (List.filter_sublist))) zp;have hr21':=s21 _ _ hr20;have sts21:=sts.mono (Bq s21);refine (vE rfl (vE rfl (vE rfl (vI rfl rfl (SqL.of (S21 _ _ hls)) aj (vI rfl rfl (SqT.of (S21 _ _ hl)) rfl ⟨r,ys1,S,z.ct,rfl,hr21',sts21,fo,fun H22 s22=>(vE rfl (Dy ?_))⟩)))));have S22:=S21.trans s22;refine (vE rfl (vE rfl (vE rfl (vI rfl rfl (SqL.of (S22 _ _ hls)) aj (vI rfl rfl (SqT.of (S22 _ _ hl)) rfl ⟨r2,ys2,S2,z.ct,rfl,s22 _ _ hr21,sts2.mono (Bq s22),fo2,fun H23 s23=>(vE rfl (Dy ?_))⟩)))));have s223:=s22.trans s23;refine (vE rfl (vE rfl ⟨r,r2,ys1,ys2,S,S2,rfl,s223 _ _ hr21',sts21.mono (Bq s223),s223 _ _ hr21,sts2.mono (Bq s223),AM um3.asked zp so so2 (fun s hs=>((Yr fo).2 s hs).1) (fun s hs=>((Yr fo2).2 s hs).1),fun H24 s24=>(vE rfl (Dy ?_))⟩));exact⟨⟨_,_,_,_,rfl⟩,S22.trans (s23.trans s24)⟩
 ·rintro σ H17 ⟨⟨o13,o14,o15,o16,rfl⟩,s17⟩
  exact q H17
end
theorem HI {P:Program} {w:World} {K:zAa} {mg:Str->Option Value} {base:Heap} {CX:AB} {k:Nat} {f:Addr} {fd:zCC} {ps:List Str} {sp:Sp} (h:∀ vs H Q E,¬ sp vs H Q E):FnOk P w K mg base CX k f fd ps sp:=
 ⟨fun vs H Q E z=>absurd z (h vs H Q E),fun _ _ _ _ _ _ _ _ _ _ _ _ _ z=>absurd z (h _ _ _ _)⟩
theorem all_mk {l:PySem.W.OpenLaw} {w:World} {K:zAa} {h:Heap} {mg:Str->Option Value} {fa:Addr} (X:K.In h) (G:h.Ns zCD mg) (hfa:mg "law" = some (.ref fa))
  {f0:Addr} (d0:DfIn K "is_whole" Lw f0)
  {f1:Addr} (d1:DfIn K "has_letters_alone" Ec f1)
  {f2:Addr} (d2:DfIn K "is_name" Oh f2)
  {f3:Addr} (d3:DfIn K "is_amount" Ka f3)
  {f4:Addr} (d4:DfIn K "year_of" Ny f4)
  {f5:Addr} (d5:DfIn K "checked_amount" Fc f5)
  {f6:Addr} (d6:DfIn K "cent_at" Ol f6)
  {f7:Addr} (d7:DfIn K "cut_within" Jg f7)
  {f8:Addr} (d8:DfIn K "lowest_of" Jw f8)
  {f9:Addr} (d9:DfIn K "left_of_run" Hl f9)
  {f10:Addr} (d10:DfIn K "cut_out" Nq f10)
  {f11:Addr} (d11:DfIn K "numbers_of" Iw f11)
  {f12:Addr} (d12:DfIn K "asked_of" La f12)
  {f13:Addr} (d13:DfIn K "paid_runs" Ju f13)
  {f14:Addr} (d14:DfIn K "borne_strips" Gd f14)
  {f15:Addr} (d15:DfIn K "strips_of" Kh f15)
  {f16:Addr} (d16:DfIn K "are_weights" Ho f16)
  {f17:Addr} (d17:DfIn K "may_have" Ma f17)
  {f18:Addr} (d18:DfIn K "due_by" Ss f18)
  {f19:Addr} (d19:DfIn K "place_of_turn" Fq f19)
  {f20:Addr} (d20:DfIn K "turns" Xp f20)
  {f21:Addr} (d21:DfIn K "check_houses" Ge f21)
  {f22:Addr} (d22:DfIn K "first_without" Fk f22)
  {f23:Addr} (d23:DfIn K "bounds_of" Jr f23)
  {f24:Addr} (d24:DfIn K "_law_cell" Jm f24)
  {f25:Addr} (d25:DfIn K "_law_whole" Jb f25)
  {f26:Addr} (d26:DfIn K "_law_spread" Hr f26)
  {f27:Addr} (d27:DfIn K "_law_names" Ir f27)
  {f28:Addr} (d28:DfIn K "_law_amount" Hy f28)
  {f29:Addr} (d29:DfIn K "_law_world" Io f29)
  {f30:Addr} (d30:DfIn K "_law_unit" Jx f30)
  {f31:Addr} (d31:DfIn K "_law_cond" Js f31)
  {f32:Addr} (d32:DfIn K "_law_drawn_clause" Ea f32)
  {f33:Addr} (d33:DfIn K "_law_covers" Hi f33)
  {f34:Addr} (d34:DfIn K "_law_loss" Jy f34)
  {f35:Addr} (d35:DfIn K "_law_losses" Hk f35)
  {f36:Addr} (d36:DfIn K "_law_key" Le f36)
  {f37:Addr} (d37:DfIn K "_law_form" Kb f37)
  {f38:Addr} (d38:DfIn K "_law_condition" Ez f38)
  {f39:Addr} (d39:DfIn K "_law_clause" Hw f39)
  {f40:Addr} (d40:DfIn K "_law_book" Kd f40)
  {f41:Addr} (d41:DfIn K "_law_state" Ip f41)
  {f42:Addr} (d42:DfIn K "_law_counts" Ht f42)
  {f43:Addr} (d43:DfIn K "_law_limits" Hh f43)
  {f44:Addr} (d44:DfIn K "_law_raised" Hs f44)
  {f45:Addr} (d45:DfIn K "_law_still_paid" Es f45)
  {f46:Addr} (d46:DfIn K "law" Sb f46)
  {Ac:Addr} (q_Condition:ClIn K "Condition" Ac)
  {Ah:Addr} (q_CauseIs:ClIn K "CauseIs" Ah)
  (na_CauseIs_name:zAc K (.ref Ah) "name" = some none)
  {Ag:Addr} (q_ThingIs:ClIn K "ThingIs" Ag)
  (na_ThingIs_name:zAc K (.ref Ag) "name" = some none)
  {Am:Addr} (q_DaysIn:ClIn K "DaysIn" Am)
  (na_DaysIn_first:zAc K (.ref Am) "first" = some none)
  (na_DaysIn_last:zAc K (.ref Am) "last" = some none)
  {Au:Addr} (q_Over:ClIn K "Over" Au)
  (na_Over_cents:zAc K (.ref Au) "cents" = some none)
  {Bc:Addr} (q_Not:ClIn K "Not" Bc)
  (na_Not_part:zAc K (.ref Bc) "part" = some none)
  {Ba:Addr} (q_All:ClIn K "All" Ba)
  (na_All_several:zAc K (.ref Ba) "several" = some none)
  {At:Addr} (q_Some:ClIn K "Some" At)
  (na_Some_several:zAc K (.ref At) "several" = some none)
  {Ae:Addr} (q_Clause:ClIn K "Clause" Ae)
  (na_Clause_by:zAc K (.ref Ae) "by" = some none)
  (ha_Clause:zAc K (.ref Ae) "__class__" = some (some (.builtin "object.__class__"))) (hm_Clause:zCt K Ae (.type "object")=some true)
  (gs:zCq K (.builtin "object.__class__") "__get__" = some (some (.builtin "getset_descriptor.__get__"))) (tk:PySem.W.takesIn K (.builtin "object.__class__")=some true)
  {Aw:Addr} (q_Own:ClIn K "Own" Aw)
  (na_Own_cents:zAc K (.ref Aw) "cents" = some none)
  (na_Own_by:zAc K (.ref Aw) "by" = some none)
  (ha_Own:zAc K (.ref Aw) "__class__" = some (some (.builtin "object.__class__"))) (hm_Own:zCt K Aw (.type "object")=some true)
  {Al:Addr} (q_Layer:ClIn K "Layer" Al)
  (na_Layer_first:zAc K (.ref Al) "first" = some none)
  (na_Layer_upto:zAc K (.ref Al) "upto" = some none)
  (na_Layer_by:zAc K (.ref Al) "by" = some none)
  (ha_Layer:zAc K (.ref Al) "__class__" = some (some (.builtin "object.__class__"))) (hm_Layer:zCt K Al (.type "object")=some true)
  {Aj:Addr} (q_Limit:ClIn K "Limit" Aj)
  (na_Limit_most:zAc K (.ref Aj) "most" = some none)
  (na_Limit_by:zAc K (.ref Aj) "by" = some none)
  (ha_Limit:zAc K (.ref Aj) "__class__" = some (some (.builtin "object.__class__"))) (hm_Limit:zCt K Aj (.type "object")=some true)
  {Bg:Addr} (q_Deal:ClIn K "Deal" Bg)
  (na_Deal_wheel:zAc K (.ref Bg) "wheel" = some none)
  (na_Deal_weights:zAc K (.ref Bg) "weights" = some none)
  {Ai:Addr} (q_Cover:ClIn K "Cover" Ai)
  (na_Cover_name:zAc K (.ref Ai) "name" = some none)
  (na_Cover_condition:zAc K (.ref Ai) "condition" = some none)
  (na_Cover_clauses:zAc K (.ref Ai) "clauses" = some none)
  (na_Cover_houses:zAc K (.ref Ai) "houses" = some none)
  (na_Cover_deal:zAc K (.ref Ai) "deal" = some none)
  (na_Cover_waits:zAc K (.ref Ai) "waits" = some none)
  {Bd:Addr} (q_Book:ClIn K "Book" Bd)
  (na_Book_covers:zAc K (.ref Bd) "covers" = some none)
  (na_Book_asking:zAc K (.ref Bd) "asking" = some none)
  {Aq:Addr} (q_Counts:ClIn K "Counts" Aq)
  (na_Counts_kept:zAc K (.ref Aq) "kept" = some none)
  (kt_Clause_Limit:zAR K (.ref Ae) (.ref Aj)=some false)
  (kt_Own_Limit:zAR K (.ref Aw) (.ref Aj)=some false)
  (kt_Layer_Limit:zAR K (.ref Al) (.ref Aj)=some false)
  (kt_Limit_Limit:zAR K (.ref Aj) (.ref Aj)=some true)
  (nd_C:([Ac,Ah,Ag,Am,Au,Bc,Ba,At,Ae,Aw,Al,Aj,Bg,Ai,Bd,Aq]:List Addr).Nodup)
  {fCondition_holds:Addr} (a_Condition_holds:zAc K (.ref Ac) "holds" = some (some (.ref fCondition_holds))) (iCondition_holds:MtIn K "holds" "Condition.holds" Er fCondition_holds)
  {fCauseIs___init__:Addr} (a_CauseIs___init__:zAc K (.ref Ah) "__init__" = some (some (.ref fCauseIs___init__))) (iCauseIs___init__:MtIn K "__init__" "CauseIs.__init__" Ei fCauseIs___init__)
  {fCauseIs_holds:Addr} (a_CauseIs_holds:zAc K (.ref Ah) "holds" = some (some (.ref fCauseIs_holds))) (iCauseIs_holds:MtIn K "holds" "CauseIs.holds" Fl fCauseIs_holds)
  {fThingIs___init__:Addr} (a_ThingIs___init__:zAc K (.ref Ag) "__init__" = some (some (.ref fThingIs___init__))) (iThingIs___init__:MtIn K "__init__" "ThingIs.__init__" Eh fThingIs___init__)
  {fThingIs_holds:Addr} (a_ThingIs_holds:zAc K (.ref Ag) "holds" = some (some (.ref fThingIs_holds))) (iThingIs_holds:MtIn K "holds" "ThingIs.holds" Fn fThingIs_holds)
  {fDaysIn___init__:Addr} (a_DaysIn___init__:zAc K (.ref Am) "__init__" = some (some (.ref fDaysIn___init__))) (iDaysIn___init__:MtIn K "__init__" "DaysIn.__init__" En fDaysIn___init__)
  {fDaysIn_holds:Addr} (a_DaysIn_holds:zAc K (.ref Am) "holds" = some (some (.ref fDaysIn_holds))) (iDaysIn_holds:MtIn K "holds" "DaysIn.holds" Gq fDaysIn_holds)
  {fOver___init__:Addr} (a_Over___init__:zAc K (.ref Au) "__init__" = some (some (.ref fOver___init__))) (iOver___init__:MtIn K "__init__" "Over.__init__" Fo fOver___init__)
  {fOver_holds:Addr} (a_Over_holds:zAc K (.ref Au) "holds" = some (some (.ref fOver_holds))) (iOver_holds:MtIn K "holds" "Over.holds" Iu fOver_holds)
  {fNot___init__:Addr} (a_Not___init__:zAc K (.ref Bc) "__init__" = some (some (.ref fNot___init__))) (iNot___init__:MtIn K "__init__" "Not.__init__" Gr fNot___init__)
  {fNot_holds:Addr} (a_Not_holds:zAc K (.ref Bc) "holds" = some (some (.ref fNot_holds))) (iNot_holds:MtIn K "holds" "Not.holds" Kc fNot_holds)
  {fAll___init__:Addr} (a_All___init__:zAc K (.ref Ba) "__init__" = some (some (.ref fAll___init__))) (iAll___init__:MtIn K "__init__" "All.__init__" Gn fAll___init__)
  {fAll_holds:Addr} (a_All_holds:zAc K (.ref Ba) "holds" = some (some (.ref fAll_holds))) (iAll_holds:MtIn K "holds" "All.holds" Jo fAll_holds)
  {fSome___init__:Addr} (a_Some___init__:zAc K (.ref At) "__init__" = some (some (.ref fSome___init__))) (iSome___init__:MtIn K "__init__" "Some.__init__" Fs fSome___init__)
  {fSome_holds:Addr} (a_Some_holds:zAc K (.ref At) "holds" = some (some (.ref fSome_holds))) (iSome_holds:MtIn K "holds" "Some.holds" Jd fSome_holds)
  {fClause___init__:Addr} (a_Clause___init__:zAc K (.ref Ae) "__init__" = some (some (.ref fClause___init__))) (iClause___init__:MtIn K "__init__" "Clause.__init__" Et fClause___init__)
  {fClause_span:Addr} (a_Clause_span:zAc K (.ref Ae) "span" = some (some (.ref fClause_span))) (iClause_span:MtIn K "span" "Clause.span" Hj fClause_span)
  {fClause_room:Addr} (a_Clause_room:zAc K (.ref Ae) "room" = some (some (.ref fClause_room))) (iClause_room:MtIn K "room" "Clause.room" Hn fClause_room)
  {fClause_key:Addr} (a_Clause_key:zAc K (.ref Ae) "key" = some (some (.ref fClause_key))) (iClause_key:MtIn K "key" "Clause.key" Iy fClause_key)
  {fOwn___init__:Addr} (a_Own___init__:zAc K (.ref Aw) "__init__" = some (some (.ref fOwn___init__))) (iOwn___init__:MtIn K "__init__" "Own.__init__" Gp fOwn___init__)
  {fOwn_span:Addr} (a_Own_span:zAc K (.ref Aw) "span" = some (some (.ref fOwn_span))) (iOwn_span:MtIn K "span" "Own.span" Lj fOwn_span)
  {fLayer___init__:Addr} (a_Layer___init__:zAc K (.ref Al) "__init__" = some (some (.ref fLayer___init__))) (iLayer___init__:MtIn K "__init__" "Layer.__init__" Fa fLayer___init__)
  {fLayer_span:Addr} (a_Layer_span:zAc K (.ref Al) "span" = some (some (.ref fLayer_span))) (iLayer_span:MtIn K "span" "Layer.span" Ix fLayer_span)
  {fLimit___init__:Addr} (a_Limit___init__:zAc K (.ref Aj) "__init__" = some (some (.ref fLimit___init__))) (iLimit___init__:MtIn K "__init__" "Limit.__init__" Fd fLimit___init__)
  {fLimit_room:Addr} (a_Limit_room:zAc K (.ref Aj) "room" = some (some (.ref fLimit_room))) (iLimit_room:MtIn K "room" "Limit.room" Il fLimit_room)
  {fDeal___init__:Addr} (a_Deal___init__:zAc K (.ref Bg) "__init__" = some (some (.ref fDeal___init__))) (iDeal___init__:MtIn K "__init__" "Deal.__init__" Fi fDeal___init__)
  {fCover___init__ dvCover___init__:Addr} {odCover___init__ anCover___init__:Option Addr} {slCover___init__:Array (Option Value)} {ocCover___init__ kVCover___init__ dcCover___init__ pmCover___init__ cdCover___init__ ctCover___init__:Value}
  (a_Cover___init__:zAc K (.ref Ai) "__init__" = some (some (.ref fCover___init__)))
  (iCover___init__:zCj K (.ref fCover___init__)=true) (lCover___init__:K.lookup fCover___init__=some ⟨ocCover___init__,odCover___init__,.func (zAS "__init__" "Cover.__init__" (Di Cf) (Cz Cf) (As Cf) (.ref dvCover___init__) kVCover___init__ dcCover___init__ pmCover___init__ anCover___init__ cdCover___init__ ctCover___init__),slCover___init__⟩) (cCover___init__:zBq K cdCover___init__ "Cover.__init__" = true) (kCover___init__:zAP K (.ref fCover___init__)=true)
  {ndCover___init__:Nat} (dlCover___init__:K.lookup dvCover___init__=some ⟨.type "tuple",none,.seq #[.none,.none,.bool false] ndCover___init__,#[]⟩)
  {fCover_asks:Addr} (a_Cover_asks:zAc K (.ref Ai) "asks" = some (some (.ref fCover_asks))) (iCover_asks:MtIn K "asks" "Cover.asks" Jf fCover_asks)
  {fCover_spans:Addr} (a_Cover_spans:zAc K (.ref Ai) "spans" = some (some (.ref fCover_spans))) (iCover_spans:MtIn K "spans" "Cover.spans" Hx fCover_spans)
  {fCover_window:Addr} (a_Cover_window:zAc K (.ref Ai) "window" = some (some (.ref fCover_window))) (iCover_window:MtIn K "window" "Cover.window" Gg fCover_window)
  {fCover_parts:Addr} (a_Cover_parts:zAc K (.ref Ai) "parts" = some (some (.ref fCover_parts))) (iCover_parts:MtIn K "parts" "Cover.parts" Hq fCover_parts)
  {fCover_rest:Addr} (a_Cover_rest:zAc K (.ref Ai) "rest" = some (some (.ref fCover_rest))) (iCover_rest:MtIn K "rest" "Cover.rest" Je fCover_rest)
  {fBook___init__:Addr} (a_Book___init__:zAc K (.ref Bd) "__init__" = some (some (.ref fBook___init__))) (iBook___init__:MtIn K "__init__" "Book.__init__" Fm fBook___init__)
  {fCounts___init__:Addr} (a_Counts___init__:zAc K (.ref Aq) "__init__" = some (some (.ref fCounts___init__))) (iCounts___init__:MtIn K "__init__" "Counts.__init__" Eo fCounts___init__)
  {fCounts_have:Addr} (a_Counts_have:zAc K (.ref Aq) "have" = some (some (.ref fCounts_have))) (iCounts_have:MtIn K "have" "Counts.have" Hm fCounts_have)
  {fCounts_add:Addr} (a_Counts_add:zAc K (.ref Aq) "add" = some (some (.ref fCounts_add))) (iCounts_add:MtIn K "add" "Counts.add" Ij fCounts_add)
  (a_Own_room:zAc K (.ref Aw) "room" = some (some (.ref fClause_room)))
  (a_Own_key:zAc K (.ref Aw) "key" = some (some (.ref fClause_key)))
  (a_Layer_room:zAc K (.ref Al) "room" = some (some (.ref fClause_room)))
  (a_Layer_key:zAc K (.ref Al) "key" = some (some (.ref fClause_key)))
  (a_Limit_span:zAc K (.ref Aj) "span" = some (some (.ref fClause_span)))
  (a_Limit_key:zAc K (.ref Aj) "key" = some (some (.ref fClause_key)))
  (bg_Clause___init__:zCq K (.ref Ae) "__getattribute__" = some (some (.builtin "type.__getattribute__"))) (br_Clause___init__:PySem.W.readsIn K Ae (.type "type")=true) (bf_Clause___init__:PySem.W.findCls K (.ref Ae) (.type "type") "__init__" = some (.val (.ref fClause___init__)))
  (ni_Condition:zAc K (.ref Ac) "__init__" = some (some (.builtin "object.__init__")))
  {w_WAYS:Addr} {nw_WAYS:Nat} {tk_WAYS0 tk_WAYS1 tk_WAYS2 tk_WAYS3:Tok} (z_WAYS:zAD K zCD "WAYS" = some (some (.ref w_WAYS))) (lw_WAYS:K.lookup w_WAYS=some ⟨.type "tuple",none,.seq #[.str "event" tk_WAYS0,.str "thing" tk_WAYS1,.str "year" tk_WAYS2,.str "loss" tk_WAYS3] nw_WAYS,#[]⟩)
  {tk_CAUSE:Tok} (z_CAUSE:zAD K zCD "CAUSE" = some (some (.int 4 tk_CAUSE)))
  {tk_CENTS:Tok} (z_CENTS:zAD K zCD "CENTS" = some (some (.int 5 tk_CENTS)))
  {tk_COVERED_ONE:Tok} (z_COVERED_ONE:zAD K zCD "COVERED_ONE" = some (some (.str "self" tk_COVERED_ONE)))
  {tk_DAY:Tok} (z_DAY:zAD K zCD "DAY" = some (some (.int 1 tk_DAY)))
  {tk_DAYS_OF_YEAR:Tok} (z_DAYS_OF_YEAR:zAD K zCD "DAYS_OF_YEAR" = some (some (.int 365 tk_DAYS_OF_YEAR)))
  {tk_EVENT:Tok} (z_EVENT:zAD K zCD "EVENT" = some (some (.int 2 tk_EVENT)))
  {tk_LETTERS:Tok} (z_LETTERS:zAD K zCD "LETTERS" = some (some (.str "abcdefghijklmnopqrstuvwxyz" tk_LETTERS)))
  {tk_LONGEST_NAME:Tok} (z_LONGEST_NAME:zAD K zCD "LONGEST_NAME" = some (some (.int 8 tk_LONGEST_NAME)))
  {tk_MOST_CENTS:Tok} (z_MOST_CENTS:zAD K zCD "MOST_CENTS" = some (some (.int 999999999999 tk_MOST_CENTS)))
  {tk_MOST_CLAUSES:Tok} (z_MOST_CLAUSES:zAD K zCD "MOST_CLAUSES" = some (some (.int 8 tk_MOST_CLAUSES)))
  {tk_MOST_COVERS:Tok} (z_MOST_COVERS:zAD K zCD "MOST_COVERS" = some (some (.int 8 tk_MOST_COVERS)))
  {tk_MOST_PLACES:Tok} (z_MOST_PLACES:zAD K zCD "MOST_PLACES" = some (some (.int 8 tk_MOST_PLACES)))
  {tk_MOST_TURNS:Tok} (z_MOST_TURNS:zAD K zCD "MOST_TURNS" = some (some (.int 100 tk_MOST_TURNS)))
  {tk_NUMBER:Tok} (z_NUMBER:zAD K zCD "NUMBER" = some (some (.int 0 tk_NUMBER)))
  {tk_THING:Tok} (z_THING:zAD K zCD "THING" = some (some (.int 3 tk_THING)))
  (z_bool:zAD K zCD "bool" = some none)
  (z_enumerate:zAD K zCD "enumerate" = some none)
  (z_int:zAD K zCD "int" = some none)
  (z_isinstance:zAD K zCD "isinstance" = some none)
  (z_len:zAD K zCD "len" = some none)
  (z_list:zAD K zCD "list" = some none)
  (z_max:zAD K zCD "max" = some none)
  (z_min:zAD K zCD "min" = some none)
  (z_range:zAD K zCD "range" = some none)
  (z_set:zAD K zCD "set" = some none)
  (z_sorted:zAD K zCD "sorted" = some none)
  (z_str:zAD K zCD "str" = some none)
  (z_sum:zAD K zCD "sum" = some none)
  (z_tuple:zAD K zCD "tuple" = some none)
  (z_zip:zAD K zCD "zip" = some none) :
  ∃ fd:zCC,(∀ (s:Shared) (v:Value),BindsTo s fd ⟨[v],[]⟩ [("_law_script",v)])/\∀ base:Heap,K.In base->base.Ns zCD mg->FnOk l.prog w K mg base Cu 9 fa fd ["_law_script"] (U9 K):=by
 have e:=hfa.symm.trans (zAz X G d46.ns);cases e;have D_is_whole:=d0.df X G (ps:=["thing"]) fun _ _ _ _ _ _=>Yy fun _=>rfl;have D_has_letters_alone:=d1.df X G (ps:=["text"]) fun _ _ _ _ _ _=>Yy fun _=>rfl;have D_is_name:=d2.df X G (ps:=["thing"]) fun _ _ _ _ _ _=>Yy fun _=>rfl;have D_is_amount:=d3.df X G (ps:=["thing"]) fun _ _ _ _ _ _=>Yy fun _=>rfl;have D_year_of:=d4.df X G (ps:=["day"]) fun _ _ _ _ _ _=>Yy fun _=>rfl;have D_checked_amount:=d5.df X G (ps:=["thing"]) fun _ _ _ _ _ _=>Yy fun _=>rfl;have D_cent_at:=d6.df X G (ps:=["bound", "count", "cents"]) fun _ _ _ _ _ _=>D9 fun _ _ _=>rfl;have D_cut_within:=d7.df X G (ps:=["runs", "lo", "hi"]) fun _ _ _ _ _ _=>D9 fun _ _ _=>rfl;have D_lowest_of:=d8.df X G (ps:=["runs", "n"]) fun _ _ _ _ _ _=>Jk fun _ _=>rfl;have D_left_of_run:=d9.df X G (ps:=["run", "others"]) fun _ _ _ _ _ _=>Jk fun _ _=>rfl;have D_cut_out:=d10.df X G (ps:=["runs", "others"]) fun _ _ _ _ _ _=>Jk fun _ _=>rfl;have D_numbers_of:=d11.df X G (ps:=["cover", "counts", "loss"]) fun _ _ _ _ _ _=>D9 fun _ _ _=>rfl;have D_asked_of:=d12.df X G (ps:=["book", "loss"]) fun _ _ _ _ _ _=>Jk fun _ _=>rfl;have D_paid_runs:=d13.df X G (ps:=["cover", "numbers", "cents", "unpaid"]) fun _ _ _ _ _ _=>IQ fun _ _ _ _=>rfl;have D_borne_strips:=d14.df X G (ps:=["cover", "numbers", "cents", "unpaid"]) fun _ _ _ _ _ _=>IQ fun _ _ _ _=>rfl;have D_strips_of:=d15.df X G (ps:=["book", "counts", "loss"]) fun _ _ _ _ _ _=>D9 fun _ _ _=>rfl;have D_are_weights:=d16.df X G (ps:=["thing"]) fun _ _ _ _ _ _=>Yy fun _=>rfl
 have D_may_have:=d17.df X G (ps:=["weight", "dealt", "total", "turn"]) fun _ _ _ _ _ _=>IQ fun _ _ _ _=>rfl;have D_due_by:=d18.df X G (ps:=["weight", "dealt", "total"]) fun _ _ _ _ _ _=>D9 fun _ _ _=>rfl;have D_place_of_turn:=d19.df X G (ps:=["weights", "dealt", "turn"]) fun _ _ _ _ _ _=>D9 fun _ _ _=>rfl;have D_turns:=d20.df X G (ps:=["weights"]) fun _ _ _ _ _ _=>Yy fun _=>rfl;have D_check_houses:=d21.df X G (ps:=["houses"]) fun _ _ _ _ _ _=>Yy fun _=>rfl;have D_first_without:=d22.df X G (ps:=["spans", "cent"]) fun _ _ _ _ _ _=>Jk fun _ _=>rfl;have D_bounds_of:=d23.df X G (ps:=["spans", "cents"]) fun _ _ _ _ _ _=>Jk fun _ _=>rfl;have D__law_cell:=d24.df X G (ps:=["_law_script", "_law_k"]) fun _ _ _ _ _ _=>Jk fun _ _=>rfl;have D__law_whole:=d25.df X G (ps:=["_law_found"]) fun _ _ _ _ _ _=>Yy fun _=>rfl;have D__law_spread:=d26.df X G (ps:=["_law_cell_here"]) fun _ _ _ _ _ _=>Yy fun _=>rfl;have D__law_names:=d27.df X G (ps:=["_law_cell_here", "_law_many"]) fun _ _ _ _ _ _=>Jk fun _ _=>rfl;have D__law_amount:=d28.df X G (ps:=["_law_digit", "_law_unit_here"]) fun _ _ _ _ _ _=>Jk fun _ _=>rfl;have D__law_world:=d29.df X G (ps:=["_law_script", "_law_most"]) fun _ _ _ _ _ _=>Jk fun _ _=>rfl;have D__law_unit:=d30.df X G (ps:=["_law_script"]) fun _ _ _ _ _ _=>Yy fun _=>rfl;have D__law_cond:=d31.df X G (ps:=["_law_cell_here", "_law_things", "_law_causes", "_law_unit_here"]) fun _ _ _ _ _ _=>IQ fun _ _ _ _=>rfl;have D__law_drawn_clause:=d32.df X G (ps:=["_law_cell_here", "_law_unit_here"]) fun _ _ _ _ _ _=>Jk fun _ _=>rfl
 have D__law_covers:=d33.df X G (ps:=["_law_script", "_law_names_here", "_law_things", "_law_causes", "_law_unit_here"]) fun _ _ _ _ _ _=>QP fun _ _ _ _ _=>rfl;have D__law_loss:=d34.df X G (ps:=["_law_cell_here", "_law_world_here", "_law_unit_here"]) fun _ _ _ _ _ _=>D9 fun _ _ _=>rfl;have D__law_losses:=d35.df X G (ps:=["_law_script", "_law_many", "_law_world_here", "_law_unit_here"]) fun _ _ _ _ _ _=>IQ fun _ _ _ _=>rfl;have D__law_key:=d36.df X G (ps:=["_law_by", "_law_loss_here"]) fun _ _ _ _ _ _=>Jk fun _ _=>rfl;have D__law_form:=d37.df X G (ps:=["_law_strips", "_law_cents"]) fun _ _ _ _ _ _=>Jk fun _ _=>rfl;have D__law_condition:=d38.df X G (ps:=["_law_cond_here"]) fun _ _ _ _ _ _=>Yy fun _=>rfl;have D__law_clause:=d39.df X G (ps:=["_law_clause_here"]) fun _ _ _ _ _ _=>Yy fun _=>rfl;have D__law_book:=d40.df X G (ps:=["_law_covers_here"]) fun _ _ _ _ _ _=>Yy fun _=>rfl;have D__law_state:=d41.df X G (ps:=["_law_covers_here", "_law_loss_here", "_law_cell_here", "_law_unit_here"]) fun _ _ _ _ _ _=>IQ fun _ _ _ _=>rfl;have D__law_counts:=d42.df X G (ps:=["_law_had_of"]) fun _ _ _ _ _ _=>Yy fun _=>rfl;have D__law_limits:=d43.df X G (ps:=["_law_covers_here"]) fun _ _ _ _ _ _=>Yy fun _=>rfl;have D__law_raised:=d44.df X G (ps:=["_law_covers_here", "_law_place", "_law_more"]) fun _ _ _ _ _ _=>D9 fun _ _ _=>rfl;have D__law_still_paid:=d45.df X G (ps:=["_law_strips", "_law_others"]) fun _ _ _ _ _ _=>Jk fun _ _=>rfl;obtain⟨od46,an46,sl46,oc46,kV46,dc46,pm46,cd46,ct46,l46,c46⟩:=d46.ex
 have F46:=L7 (x := "law") (qual := "law") (st:=Sb) l46 c46 d46.kp;obtain⟨_,F_Condition_holds,B_Condition_holds⟩:=iCondition_holds.get (ps:=["self", "loss"]) fun _ _ _ _ _ _=>Jk fun _ _=>rfl;obtain⟨_,F_CauseIs___init__,B_CauseIs___init__⟩:=iCauseIs___init__.get (ps:=["self", "name"]) fun _ _ _ _ _ _=>Jk fun _ _=>rfl;obtain⟨_,F_CauseIs_holds,B_CauseIs_holds⟩:=iCauseIs_holds.get (ps:=["self", "loss"]) fun _ _ _ _ _ _=>Jk fun _ _=>rfl;obtain⟨_,F_ThingIs___init__,B_ThingIs___init__⟩:=iThingIs___init__.get (ps:=["self", "name"]) fun _ _ _ _ _ _=>Jk fun _ _=>rfl;obtain⟨_,F_ThingIs_holds,B_ThingIs_holds⟩:=iThingIs_holds.get (ps:=["self", "loss"]) fun _ _ _ _ _ _=>Jk fun _ _=>rfl;obtain⟨_,F_DaysIn___init__,B_DaysIn___init__⟩:=iDaysIn___init__.get (ps:=["self", "first", "last"]) fun _ _ _ _ _ _=>D9 fun _ _ _=>rfl;obtain⟨_,F_DaysIn_holds,B_DaysIn_holds⟩:=iDaysIn_holds.get (ps:=["self", "loss"]) fun _ _ _ _ _ _=>Jk fun _ _=>rfl;obtain⟨_,F_Over___init__,B_Over___init__⟩:=iOver___init__.get (ps:=["self", "cents"]) fun _ _ _ _ _ _=>Jk fun _ _=>rfl;obtain⟨_,F_Over_holds,B_Over_holds⟩:=iOver_holds.get (ps:=["self", "loss"]) fun _ _ _ _ _ _=>Jk fun _ _=>rfl;obtain⟨_,F_Not___init__,B_Not___init__⟩:=iNot___init__.get (ps:=["self", "part"]) fun _ _ _ _ _ _=>Jk fun _ _=>rfl;obtain⟨_,F_Not_holds,B_Not_holds⟩:=iNot_holds.get (ps:=["self", "loss"]) fun _ _ _ _ _ _=>Jk fun _ _=>rfl;obtain⟨_,F_All___init__,B_All___init__⟩:=iAll___init__.get (ps:=["self", "several"]) fun _ _ _ _ _ _=>Jk fun _ _=>rfl
 obtain⟨_,F_All_holds,B_All_holds⟩:=iAll_holds.get (ps:=["self", "loss"]) fun _ _ _ _ _ _=>Jk fun _ _=>rfl;obtain⟨_,F_Some___init__,B_Some___init__⟩:=iSome___init__.get (ps:=["self", "several"]) fun _ _ _ _ _ _=>Jk fun _ _=>rfl;obtain⟨_,F_Some_holds,B_Some_holds⟩:=iSome_holds.get (ps:=["self", "loss"]) fun _ _ _ _ _ _=>Jk fun _ _=>rfl;obtain⟨_,F_Clause___init__,B_Clause___init__⟩:=iClause___init__.get (ps:=["self", "by"]) fun _ _ _ _ _ _=>Jk fun _ _=>rfl;obtain⟨_,F_Clause_span,B_Clause_span⟩:=iClause_span.get (ps:=["self", "count", "cents"]) fun _ _ _ _ _ _=>D9 fun _ _ _=>rfl;obtain⟨_,F_Clause_room,B_Clause_room⟩:=iClause_room.get (ps:=["self", "paid"]) fun _ _ _ _ _ _=>Jk fun _ _=>rfl;obtain⟨_,F_Clause_key,B_Clause_key⟩:=iClause_key.get (ps:=["self", "loss"]) fun _ _ _ _ _ _=>Jk fun _ _=>rfl;obtain⟨_,F_Own___init__,B_Own___init__⟩:=iOwn___init__.get (ps:=["self", "by", "cents"]) fun _ _ _ _ _ _=>D9 fun _ _ _=>rfl;obtain⟨_,F_Own_span,B_Own_span⟩:=iOwn_span.get (ps:=["self", "count", "cents"]) fun _ _ _ _ _ _=>D9 fun _ _ _=>rfl;obtain⟨_,F_Layer___init__,B_Layer___init__⟩:=iLayer___init__.get (ps:=["self", "by", "first", "upto"]) fun _ _ _ _ _ _=>IQ fun _ _ _ _=>rfl;obtain⟨_,F_Layer_span,B_Layer_span⟩:=iLayer_span.get (ps:=["self", "count", "cents"]) fun _ _ _ _ _ _=>D9 fun _ _ _=>rfl;obtain⟨_,F_Limit___init__,B_Limit___init__⟩:=iLimit___init__.get (ps:=["self", "by", "most"]) fun _ _ _ _ _ _=>D9 fun _ _ _=>rfl;obtain⟨_,F_Limit_room,B_Limit_room⟩:=iLimit_room.get (ps:=["self", "paid"]) fun _ _ _ _ _ _=>Jk fun _ _=>rfl
 obtain⟨_,F_Deal___init__,B_Deal___init__⟩:=iDeal___init__.get (ps:=["self", "weights"]) fun _ _ _ _ _ _=>Jk fun _ _=>rfl;have F_Cover___init__:=HJ (x := "__init__") (qual := "Cover.__init__") (st:=Cf) lCover___init__ cCover___init__ kCover___init__;have B_Cover___init__:Binds K _ ["self", "name", "condition", "clauses", "houses", "waits"] []:=fun s us X hl=>by
  rw[zAY] at hl ⊢
  match us,hl with | [_,_,_,_,_,_],_=>exact BindsTo.of_defaults (fd:=zAS "__init__" "Cover.__init__" (Di Cf) (Cz Cf) (As Cf) (.ref dvCover___init__) kVCover___init__ dcCover___init__ pmCover___init__ anCover___init__ cdCover___init__ ctCover___init__) rfl (X _ _ dlCover___init__) rfl rfl rfl
 obtain⟨_,F_Cover_asks,B_Cover_asks⟩:=iCover_asks.get (ps:=["self", "loss"]) fun _ _ _ _ _ _=>Jk fun _ _=>rfl;obtain⟨_,F_Cover_spans,B_Cover_spans⟩:=iCover_spans.get (ps:=["self", "counts", "cents"]) fun _ _ _ _ _ _=>D9 fun _ _ _=>rfl;obtain⟨_,F_Cover_window,B_Cover_window⟩:=iCover_window.get (ps:=["self", "counts", "cents"]) fun _ _ _ _ _ _=>D9 fun _ _ _=>rfl;obtain⟨_,F_Cover_parts,B_Cover_parts⟩:=iCover_parts.get (ps:=["self", "counts", "cents"]) fun _ _ _ _ _ _=>D9 fun _ _ _=>rfl;obtain⟨_,F_Cover_rest,B_Cover_rest⟩:=iCover_rest.get (ps:=["self", "counts"]) fun _ _ _ _ _ _=>Jk fun _ _=>rfl;obtain⟨_,F_Book___init__,B_Book___init__⟩:=iBook___init__.get (ps:=["self", "covers"]) fun _ _ _ _ _ _=>Jk fun _ _=>rfl;obtain⟨_,F_Counts___init__,B_Counts___init__⟩:=iCounts___init__.get (ps:=["self"]) fun _ _ _ _ _ _=>Yy fun _=>rfl;obtain⟨_,F_Counts_have,B_Counts_have⟩:=iCounts_have.get (ps:=["self", "name", "k", "key"]) fun _ _ _ _ _ _=>IQ fun _ _ _ _=>rfl;obtain⟨_,F_Counts_add,B_Counts_add⟩:=iCounts_add.get (ps:=["self", "name", "k", "key", "cents"]) fun _ _ _ _ _ _=>QP fun _ _ _ _ _=>rfl;have H_Condition_holds:Ef K Ac "holds" fCondition_holds:=⟨a_Condition_holds,iCondition_holds.fn,iCondition_holds.kp⟩;have H_CauseIs_make:Mk K Ah fCauseIs___init__:=⟨q_CauseIs.mi,a_CauseIs___init__,iCauseIs___init__.fn,q_CauseIs.kp⟩;have H_CauseIs_holds:Ef K Ah "holds" fCauseIs_holds:=⟨a_CauseIs_holds,iCauseIs_holds.fn,iCauseIs_holds.kp⟩;have H_ThingIs_make:Mk K Ag fThingIs___init__:=⟨q_ThingIs.mi,a_ThingIs___init__,iThingIs___init__.fn,q_ThingIs.kp⟩
 have H_ThingIs_holds:Ef K Ag "holds" fThingIs_holds:=⟨a_ThingIs_holds,iThingIs_holds.fn,iThingIs_holds.kp⟩;have H_DaysIn_make:Mk K Am fDaysIn___init__:=⟨q_DaysIn.mi,a_DaysIn___init__,iDaysIn___init__.fn,q_DaysIn.kp⟩;have H_DaysIn_holds:Ef K Am "holds" fDaysIn_holds:=⟨a_DaysIn_holds,iDaysIn_holds.fn,iDaysIn_holds.kp⟩;have H_Over_make:Mk K Au fOver___init__:=⟨q_Over.mi,a_Over___init__,iOver___init__.fn,q_Over.kp⟩;have H_Over_holds:Ef K Au "holds" fOver_holds:=⟨a_Over_holds,iOver_holds.fn,iOver_holds.kp⟩;have H_Not_make:Mk K Bc fNot___init__:=⟨q_Not.mi,a_Not___init__,iNot___init__.fn,q_Not.kp⟩;have H_Not_holds:Ef K Bc "holds" fNot_holds:=⟨a_Not_holds,iNot_holds.fn,iNot_holds.kp⟩;have H_All_make:Mk K Ba fAll___init__:=⟨q_All.mi,a_All___init__,iAll___init__.fn,q_All.kp⟩;have H_All_holds:Ef K Ba "holds" fAll_holds:=⟨a_All_holds,iAll_holds.fn,iAll_holds.kp⟩;have H_Some_make:Mk K At fSome___init__:=⟨q_Some.mi,a_Some___init__,iSome___init__.fn,q_Some.kp⟩;have H_Some_holds:Ef K At "holds" fSome_holds:=⟨a_Some_holds,iSome_holds.fn,iSome_holds.kp⟩;have H_Clause_make:Mk K Ae fClause___init__:=⟨q_Clause.mi,a_Clause___init__,iClause___init__.fn,q_Clause.kp⟩;have H_Clause_span:Ef K Ae "span" fClause_span:=⟨a_Clause_span,iClause_span.fn,iClause_span.kp⟩;have H_Clause_room:Ef K Ae "room" fClause_room:=⟨a_Clause_room,iClause_room.fn,iClause_room.kp⟩;have H_Clause_key:Ef K Ae "key" fClause_key:=⟨a_Clause_key,iClause_key.fn,iClause_key.kp⟩;have H_Own_make:Mk K Aw fOwn___init__:=⟨q_Own.mi,a_Own___init__,iOwn___init__.fn,q_Own.kp⟩
 have H_Own_span:Ef K Aw "span" fOwn_span:=⟨a_Own_span,iOwn_span.fn,iOwn_span.kp⟩;have H_Own_room:Ef K Aw "room" fClause_room:=⟨a_Own_room,iClause_room.fn,iClause_room.kp⟩;have H_Own_key:Ef K Aw "key" fClause_key:=⟨a_Own_key,iClause_key.fn,iClause_key.kp⟩;have H_Layer_make:Mk K Al fLayer___init__:=⟨q_Layer.mi,a_Layer___init__,iLayer___init__.fn,q_Layer.kp⟩;have H_Layer_span:Ef K Al "span" fLayer_span:=⟨a_Layer_span,iLayer_span.fn,iLayer_span.kp⟩;have H_Layer_room:Ef K Al "room" fClause_room:=⟨a_Layer_room,iClause_room.fn,iClause_room.kp⟩;have H_Layer_key:Ef K Al "key" fClause_key:=⟨a_Layer_key,iClause_key.fn,iClause_key.kp⟩;have H_Limit_make:Mk K Aj fLimit___init__:=⟨q_Limit.mi,a_Limit___init__,iLimit___init__.fn,q_Limit.kp⟩;have H_Limit_span:Ef K Aj "span" fClause_span:=⟨a_Limit_span,iClause_span.fn,iClause_span.kp⟩;have H_Limit_room:Ef K Aj "room" fLimit_room:=⟨a_Limit_room,iLimit_room.fn,iLimit_room.kp⟩;have H_Limit_key:Ef K Aj "key" fClause_key:=⟨a_Limit_key,iClause_key.fn,iClause_key.kp⟩;have H_Deal_make:Mk K Bg fDeal___init__:=⟨q_Deal.mi,a_Deal___init__,iDeal___init__.fn,q_Deal.kp⟩;have H_Cover_make:Mk K Ai fCover___init__:=⟨q_Cover.mi,a_Cover___init__,iCover___init__,q_Cover.kp⟩;have H_Cover_asks:Ef K Ai "asks" fCover_asks:=⟨a_Cover_asks,iCover_asks.fn,iCover_asks.kp⟩;have H_Cover_spans:Ef K Ai "spans" fCover_spans:=⟨a_Cover_spans,iCover_spans.fn,iCover_spans.kp⟩;have H_Cover_window:Ef K Ai "window" fCover_window:=⟨a_Cover_window,iCover_window.fn,iCover_window.kp⟩
 have H_Cover_parts:Ef K Ai "parts" fCover_parts:=⟨a_Cover_parts,iCover_parts.fn,iCover_parts.kp⟩;have H_Cover_rest:Ef K Ai "rest" fCover_rest:=⟨a_Cover_rest,iCover_rest.fn,iCover_rest.kp⟩;have H_Book_make:Mk K Bd fBook___init__:=⟨q_Book.mi,a_Book___init__,iBook___init__.fn,q_Book.kp⟩;have H_Counts_make:Mk K Aq fCounts___init__:=⟨q_Counts.mi,a_Counts___init__,iCounts___init__.fn,q_Counts.kp⟩;have H_Counts_have:Ef K Aq "have" fCounts_have:=⟨a_Counts_have,iCounts_have.fn,iCounts_have.kp⟩;have H_Counts_add:Ef K Aq "add" fCounts_add:=⟨a_Counts_add,iCounts_add.fn,iCounts_add.kp⟩;have Z_Clause___init__:DO K Ae "__init__" fClause___init__:=⟨bg_Clause___init__,br_Clause___init__,bf_Clause___init__,iClause___init__.kp⟩;have NCondition:OH K mg "Condition" Ac:=⟨q_Condition.mi,ni_Condition,q_Condition.kp,zAz X G q_Condition.ns⟩;have L:Kl K mg Ac Ah Ag Am Au Bc Ba At Ae Aw Al Aj Bg Ai Bd Aq:=⟨zAz X G q_Condition.ns,q_Condition.cl,zAz X G q_CauseIs.ns,q_CauseIs.cl,na_CauseIs_name,zAz X G q_ThingIs.ns,q_ThingIs.cl,na_ThingIs_name,zAz X G q_DaysIn.ns,q_DaysIn.cl,na_DaysIn_first,na_DaysIn_last,zAz X G q_Over.ns,q_Over.cl,na_Over_cents,zAz X G q_Not.ns,q_Not.cl,na_Not_part,zAz X G q_All.ns,q_All.cl,na_All_several,zAz X G q_Some.ns,q_Some.cl,na_Some_several,zAz X G q_Clause.ns,q_Clause.cl,na_Clause_by,fun e=>.ins e q_Clause.cl ha_Clause gs tk hm_Clause,zAz X G q_Own.ns,q_Own.cl,na_Own_cents,na_Own_by,fun e=>.ins e q_Own.cl ha_Own gs tk hm_Own,zAz X G q_Layer.ns,q_Layer.cl,na_Layer_first,na_Layer_upto,na_Layer_by,fun e=>.ins e q_Layer.cl ha_Layer gs tk hm_Layer,zAz X G q_Limit.ns,q_Limit.cl,na_Limit_most,na_Limit_by,fun e=>.ins e q_Limit.cl ha_Limit gs tk hm_Limit,zAz X G q_Deal.ns,q_Deal.cl,na_Deal_wheel,na_Deal_weights,zAz X G q_Cover.ns,q_Cover.cl,na_Cover_name,na_Cover_condition,na_Cover_clauses,na_Cover_houses,na_Cover_deal,na_Cover_waits,zAz X G q_Book.ns,q_Book.cl,na_Book_covers,na_Book_asking,zAz X G q_Counts.ns,q_Counts.cl,na_Counts_kept,kt_Clause_Limit,kt_Own_Limit,kt_Layer_Limit,kt_Limit_Limit,nd_C⟩
 have T:Txt K mg:=⟨⟨tk_CAUSE,zAz X G z_CAUSE⟩,⟨tk_CENTS,zAz X G z_CENTS⟩,⟨tk_COVERED_ONE,zAz X G z_COVERED_ONE⟩,⟨tk_DAY,zAz X G z_DAY⟩,⟨tk_DAYS_OF_YEAR,zAz X G z_DAYS_OF_YEAR⟩,⟨tk_EVENT,zAz X G z_EVENT⟩,⟨tk_LETTERS,zAz X G z_LETTERS⟩,⟨tk_LONGEST_NAME,zAz X G z_LONGEST_NAME⟩,⟨tk_MOST_CENTS,zAz X G z_MOST_CENTS⟩,⟨tk_MOST_CLAUSES,zAz X G z_MOST_CLAUSES⟩,⟨tk_MOST_COVERS,zAz X G z_MOST_COVERS⟩,⟨tk_MOST_PLACES,zAz X G z_MOST_PLACES⟩,⟨tk_MOST_TURNS,zAz X G z_MOST_TURNS⟩,⟨tk_NUMBER,zAz X G z_NUMBER⟩,⟨tk_THING,zAz X G z_THING⟩,zAK X G z_bool,zAK X G z_enumerate,zAK X G z_int,zAK X G z_isinstance,zAK X G z_len,zAK X G z_list,zAK X G z_max,zAK X G z_min,zAK X G z_range,zAK X G z_set,zAK X G z_sorted,zAK X G z_str,zAK X G z_sum,zAK X G z_tuple,zAK X G z_zip,⟨w_WAYS,zAz X G z_WAYS,fun H=>.inr ⟨_,_,_,lw_WAYS,rfl,rfl,by show 4<=sizeLine; rw[zCA]; decide,.cons ⟨_,rfl⟩ (.cons ⟨_,rfl⟩ (.cons ⟨_,rfl⟩ (.cons ⟨_,rfl⟩ (.nil))))⟩⟩⟩;refine⟨zAS "law" "law" (Di Sb) (Cz Sb) (As Sb) .none kV46 dc46 pm46 an46 cd46 ct46,fun s v=>.of_eq rfl,fun base _ _=>?_⟩;have Cis_whole:Cn l.prog w K mg base 1 "is_whole" ["thing"] (Ik K):=D_is_whole.cal fun f fd F=>C6 F T;have Cis_amount:Cn l.prog w K mg base 2 "is_amount" ["thing"] (CD K 999999999999):=D_is_amount.cal fun f fd F=>Yq F T Cis_whole;have Cchecked_amount:Cn l.prog w K mg base 3 "checked_amount" ["thing"] B3:=D_checked_amount.cal fun f fd F=>Ni F T Cis_amount;have BClause___init__:EG l.prog w K mg base 2 "Clause" "__init__" ["self", "by"] (CG Ae Aw Al Aj):=⟨_,_,_,Lk F_Clause___init__ T L,B_Clause___init__,Z_Clause___init__,L.mg_Clause⟩
 have KOwn:Ek l.prog w K mg base 4 "Own" Aw ["self", "by", "cents"] (FJ Ae Aw Al Aj):=⟨_,_,H_Own_make,Qd F_Own___init__ T L BClause___init__ Cchecked_amount,B_Own___init__,L.mg_Own⟩;have KLayer:Ek l.prog w K mg base 4 "Layer" Al ["self", "by", "first", "upto"] (EU Ae Aw Al Aj):=⟨_,_,H_Layer_make,Nb F_Layer___init__ T L BClause___init__ Cchecked_amount,B_Layer___init__,L.mg_Layer⟩;have KLimit:Ek l.prog w K mg base 4 "Limit" Aj ["self", "by", "most"] (CU Ae Aw Al Aj):=⟨_,_,H_Limit_make,Mi F_Limit___init__ T L BClause___init__ Cchecked_amount,B_Limit___init__,L.mg_Limit⟩;have Ccent_at:Cn l.prog w K mg base 1 "cent_at" ["bound", "count", "cents"] Wm:=D_cent_at.cal fun f fd F=>P1 F T;have Mroom:Px l.prog w K mg base 1 (Fam Ae Aw Al Aj) "room" ["self", "paid"] (Wr Ae Aw Al Aj):=⟨fun C hC=>by
  rcases hC with rfl | rfl | rfl | rfl
  ·exact⟨⟨_,_,Gk F_Clause_room T (fun c h n=>by obtain⟨y,rfl⟩:=R4 L h; rfl),B_Clause_room,H_Clause_room⟩,L.cl_Clause⟩
  ·exact⟨⟨_,_,Gk F_Clause_room T (fun c h n=>by obtain⟨y,d,rfl⟩:=Q9 L h; rfl),B_Clause_room,H_Own_room⟩,L.cl_Own⟩
  ·exact⟨⟨_,_,Gk F_Clause_room T (fun c h n=>by obtain⟨y,a,b,rfl⟩:=Q4 L h; rfl),B_Clause_room,H_Layer_room⟩,L.cl_Layer⟩
  ·exact⟨⟨_,_,Tt F_Limit_room T L,B_Limit_room,H_Limit_room⟩,L.cl_Limit⟩⟩
 have Mspan:Px l.prog w K mg base 2 (Fam Ae Aw Al Aj) "span" ["self", "count", "cents"] (Qy Ae Aw Al Aj):=⟨fun C hC=>by
  rcases hC with rfl | rfl | rfl | rfl
  ·exact⟨⟨_,_,Jl F_Clause_span T (fun c h n k=>by obtain⟨y,rfl⟩:=R4 L h; exact⟨rfl,rfl⟩),B_Clause_span,H_Clause_span⟩,L.cl_Clause⟩
  ·exact⟨⟨_,_,Zl F_Own_span T L Ccent_at,B_Own_span,H_Own_span⟩,L.cl_Own⟩
  ·exact⟨⟨_,_,Ur F_Layer_span T L Ccent_at,B_Layer_span,H_Layer_span⟩,L.cl_Layer⟩
  ·exact⟨⟨_,_,Jl F_Clause_span T (fun c h n k=>by obtain⟨y,m,rfl⟩:=V9 L h; exact⟨rfl,rfl⟩),B_Clause_span,H_Limit_span⟩,L.cl_Limit⟩⟩
 have Care_weights:Cn l.prog w K mg base 2 "are_weights" ["thing"] EA:=D_are_weights.cal fun f fd F=>Qp F T Cis_whole;have Cmay_have:Cn l.prog w K mg base 1 "may_have" ["weight", "dealt", "total", "turn"] P8:=D_may_have.cal fun f fd F=>Zy F T;have Cdue_by:Cn l.prog w K mg base 1 "due_by" ["weight", "dealt", "total"] K9:=D_due_by.cal fun f fd F=>AU F T;have Cplace_of_turn:Cn l.prog w K mg base 2 "place_of_turn" ["weights", "dealt", "turn"] FQ:=D_place_of_turn.cal fun f fd F=>Oq F T Cmay_have Cdue_by;have Cturns:Cn l.prog w K mg base 3 "turns" ["weights"] ET:=D_turns.cal fun f fd F=>DV F T Care_weights Cplace_of_turn;have KDeal:Ek l.prog w K mg base 4 "Deal" Bg ["self", "weights"] (DH Bg):=⟨_,_,H_Deal_make,Nv F_Deal___init__ T L Cturns,B_Deal___init__,L.mg_Deal⟩;have Chas_letters_alone:Cn l.prog w K mg base 1 "has_letters_alone" ["text"] FP:=D_has_letters_alone.cal fun f fd F=>Kf F T;have Cis_name:Cn l.prog w K mg base 2 "is_name" ["thing"] (Xg K):=D_is_name.cal fun f fd F=>K0 F T Chas_letters_alone;have Ccheck_houses:Cn l.prog w K mg base 3 "check_houses" ["houses"] EC:=D_check_houses.cal fun f fd F=>Pk F T Cis_name;have KCover:Ek l.prog w K mg base 6 "Cover" Ai ["self", "name", "condition", "clauses", "houses", "waits"] (P0 Ai):=⟨_,_,H_Cover_make,Nd F_Cover___init__ T L Cis_name Ccheck_houses KDeal,B_Cover___init__,L.mg_Cover⟩;have KBook:Ek l.prog w K mg base 1 "Book" Bd ["self", "covers"] (O0 Ai Bd):=⟨_,_,H_Book_make,Ox F_Book___init__ T L,B_Book___init__,L.mg_Book⟩
 have KCounts:Ek l.prog w K mg base 1 "Counts" Aq ["self"] (EB Aq):=⟨_,_,H_Counts_make,Lr F_Counts___init__ T L,B_Counts___init__,L.mg_Counts⟩;have Mhave:Iv l.prog w K mg base 1 Aq "have" ["self", "name", "k", "key"] (Yt Aq):=⟨⟨_,_,Sy F_Counts_have T L,B_Counts_have,H_Counts_have⟩,L.cl_Counts⟩;have Madd:Iv l.prog w K mg base 2 Aq "add" ["self", "name", "k", "key", "cents"] (EW Aq):=⟨⟨_,_,Ue F_Counts_add T L Mhave,B_Counts_add,H_Counts_add⟩,L.cl_Counts⟩;have Cfirst_without:Cn l.prog w K mg base 1 "first_without" ["spans", "cent"] LA:=D_first_without.cal fun f fd F=>Oc F T;have Cbounds_of:Cn l.prog w K mg base 1 "bounds_of" ["spans", "cents"] DC:=D_bounds_of.cal fun f fd F=>Xv F T;have Mspans:Iv l.prog w K mg base 3 Ai "spans" ["self", "counts", "cents"] (Qi Ae Aw Al Aj Ai):=⟨⟨_,_,Qr F_Cover_spans T L Mspan,B_Cover_spans,H_Cover_spans⟩,L.cl_Cover⟩;have Mwindow:Iv l.prog w K mg base 4 Ai "window" ["self", "counts", "cents"] (BM Ae Aw Al Aj Ai):=⟨⟨_,_,Pz F_Cover_window T L Mspans,B_Cover_window,H_Cover_window⟩,L.cl_Cover⟩;have Mparts:Iv l.prog w K mg base 4 Ai "parts" ["self", "counts", "cents"] (FC Ae Aw Al Aj Ai):=⟨⟨_,_,So F_Cover_parts T L Mspans Cbounds_of Cfirst_without,B_Cover_parts,H_Cover_parts⟩,L.cl_Cover⟩;have Mrest:Iv l.prog w K mg base 2 Ai "rest" ["self", "counts"] (Yo Ae Aw Al Aj Ai):=⟨⟨_,_,Uf F_Cover_rest T L Mroom,B_Cover_rest,H_Cover_rest⟩,L.cl_Cover⟩;have Mholds:∀ m,Px l.prog w K mg base m (A8.Fam (A8.mk Ac Ah Ag Am Au Bc Ba At)) "holds" ["self", "loss"] (Ds (A8.mk Ac Ah Ag Am Au Bc Ba At) m):=by
  intro m
  induction m with
  | zero=>
   refine⟨fun C hC=>?_⟩;rcases hC with rfl | rfl | rfl | rfl | rfl | rfl | rfl | rfl
   ·exact⟨⟨_,_,HI fun _ _ _ _=>Fh,B_Condition_holds,H_Condition_holds⟩,L.cl_Condition⟩
   ·exact⟨⟨_,_,HI fun _ _ _ _=>Fh,B_CauseIs_holds,H_CauseIs_holds⟩,L.cl_CauseIs⟩
   ·exact⟨⟨_,_,HI fun _ _ _ _=>Fh,B_ThingIs_holds,H_ThingIs_holds⟩,L.cl_ThingIs⟩
   ·exact⟨⟨_,_,HI fun _ _ _ _=>Fh,B_DaysIn_holds,H_DaysIn_holds⟩,L.cl_DaysIn⟩
   ·exact⟨⟨_,_,HI fun _ _ _ _=>Fh,B_Over_holds,H_Over_holds⟩,L.cl_Over⟩
   ·exact⟨⟨_,_,HI fun _ _ _ _=>Fh,B_Not_holds,H_Not_holds⟩,L.cl_Not⟩
   ·exact⟨⟨_,_,HI fun _ _ _ _=>Fh,B_All_holds,H_All_holds⟩,L.cl_All⟩
   ·exact⟨⟨_,_,HI fun _ _ _ _=>Fh,B_Some_holds,H_Some_holds⟩,L.cl_Some⟩
  | succ m ih=>
   refine⟨fun C hC=>?_⟩;have m1:1<=m+1:=Nat.succ_le_succ (zAB _);rcases hC with rfl | rfl | rfl | rfl | rfl | rfl | rfl | rfl
   ·exact⟨⟨_,_,(Lz F_Condition_holds L).mono m1,B_Condition_holds,H_Condition_holds⟩,L.cl_Condition⟩
   ·exact⟨⟨_,_,(Of F_CauseIs_holds T L).mono m1,B_CauseIs_holds,H_CauseIs_holds⟩,L.cl_CauseIs⟩
   ·exact⟨⟨_,_,(Od F_ThingIs_holds T L).mono m1,B_ThingIs_holds,H_ThingIs_holds⟩,L.cl_ThingIs⟩
   ·exact⟨⟨_,_,(Pq F_DaysIn_holds T L).mono m1,B_DaysIn_holds,H_DaysIn_holds⟩,L.cl_DaysIn⟩
   ·exact⟨⟨_,_,(Uv F_Over_holds T L).mono m1,B_Over_holds,H_Over_holds⟩,L.cl_Over⟩
   ·exact⟨⟨_,_,Xt F_Not_holds L ih,B_Not_holds,H_Not_holds⟩,L.cl_Not⟩
   ·exact⟨⟨_,_,Xe F_All_holds L ih,B_All_holds,H_All_holds⟩,L.cl_All⟩
   ·exact⟨⟨_,_,Uj F_Some_holds L ih,B_Some_holds,H_Some_holds⟩,L.cl_Some⟩
 have KCauseIs:Ek l.prog w K mg base 1 "CauseIs" Ah ["self", "name"] (Jj Ah "name"):=⟨_,_,H_CauseIs_make,Kq F_CauseIs___init__ L,B_CauseIs___init__,L.mg_CauseIs⟩;have KThingIs:Ek l.prog w K mg base 1 "ThingIs" Ag ["self", "name"] (Jj Ag "name"):=⟨_,_,H_ThingIs_make,Kr F_ThingIs___init__ L,B_ThingIs___init__,L.mg_ThingIs⟩;have KDaysIn:Ek l.prog w K mg base 1 "DaysIn" Am ["self", "first", "last"] (CT Am):=⟨_,_,H_DaysIn_make,Lo F_DaysIn___init__ L,B_DaysIn___init__,L.mg_DaysIn⟩;have KOver:Ek l.prog w K mg base 1 "Over" Au ["self", "cents"] (Jj Au "cents"):=⟨_,_,H_Over_make,Oj F_Over___init__ L,B_Over___init__,L.mg_Over⟩;have KNot:Ek l.prog w K mg base 1 "Not" Bc ["self", "part"] (Jj Bc "part"):=⟨_,_,H_Not_make,Qa F_Not___init__ L,B_Not___init__,L.mg_Not⟩;have KAll:Ek l.prog w K mg base 1 "All" Ba ["self", "several"] (Wg Ba):=⟨_,_,H_All_make,Ps F_All___init__ T L,B_All___init__,L.mg_All⟩;have KSome:Ek l.prog w K mg base 1 "Some" At ["self", "several"] (Wg At):=⟨_,_,H_Some_make,Nu F_Some___init__ T L,B_Some___init__,L.mg_Some⟩;have Cyear_of:Cn l.prog w K mg base 1 "year_of" ["day"] J4:=D_year_of.cal fun f fd F=>M7 F T;have Mkey:Px l.prog w K mg base 2 (Fam Ae Aw Al Aj) "key" ["self", "loss"] (DT Ae Aw Al Aj):=⟨fun C hC=>by
  rcases hC with rfl | rfl | rfl | rfl
  ·exact⟨⟨_,_,Fe F_Clause_key T L Cyear_of,B_Clause_key,H_Clause_key⟩,L.cl_Clause⟩
  ·exact⟨⟨_,_,Fe F_Clause_key T L Cyear_of,B_Clause_key,H_Own_key⟩,L.cl_Own⟩
  ·exact⟨⟨_,_,Fe F_Clause_key T L Cyear_of,B_Clause_key,H_Layer_key⟩,L.cl_Layer⟩
  ·exact⟨⟨_,_,Fe F_Clause_key T L Cyear_of,B_Clause_key,H_Limit_key⟩,L.cl_Limit⟩⟩
 have Masks:Iv l.prog w K mg base 5 Ai "asks" ["self", "loss"] (O5 (A8.mk Ac Ah Ag Am Au Bc Ba At) Ae Aw Al Aj Ai 4):=⟨⟨_,_,Ug F_Cover_asks T L (Mholds 4),B_Cover_asks,H_Cover_asks⟩,L.cl_Cover⟩;have Cnumbers_of:Cn l.prog w K mg base 3 "numbers_of" ["cover", "counts", "loss"] (G4 (A8.mk Ac Ah Ag Am Au Bc Ba At) Ae Aw Al Aj Ai Aq):=D_numbers_of.cal fun f fd F=>Ul F T L Mkey Mhave;have Casked_of:Cn l.prog w K mg base 6 "asked_of" ["book", "loss"] (Yc (A8.mk Ac Ah Ag Am Au Bc Ba At) Ae Aw Al Aj Ai Bd 4):=D_asked_of.cal fun f fd F=>E8 F T L Masks;have Ccut_within:Cn l.prog w K mg base 1 "cut_within" ["runs", "lo", "hi"] W6:=D_cut_within.cal fun f fd F=>Uy F T;have Clowest_of:Cn l.prog w K mg base 1 "lowest_of" ["runs", "n"] Qs:=D_lowest_of.cal fun f fd F=>Xb F T;have Cleft_of_run:Cn l.prog w K mg base 1 "left_of_run" ["run", "others"] P3:=D_left_of_run.cal fun f fd F=>Sa F T;have Ccut_out:Cn l.prog w K mg base 2 "cut_out" ["runs", "others"] DR:=D_cut_out.cal fun f fd F=>J2 F T Cleft_of_run;have Cpaid_runs:Cn l.prog w K mg base 5 "paid_runs" ["cover", "numbers", "cents", "unpaid"] (P6 (A8.mk Ac Ah Ag Am Au Bc Ba At) Ae Aw Al Aj Ai):=D_paid_runs.cal fun f fd F=>Xw F T Mwindow Mrest Ccut_within Clowest_of;have Cborne_strips:Cn l.prog w K mg base 5 "borne_strips" ["cover", "numbers", "cents", "unpaid"] (Yw (A8.mk Ac Ah Ag Am Au Bc Ba At) Ae Aw Al Aj Ai):=D_borne_strips.cal fun f fd F=>Pt F T L Mparts Mrest Ccut_within;have Cstrips_of:Cn l.prog w K mg base 7 "strips_of" ["book", "counts", "loss"] (Tf (A8.mk Ac Ah Ag Am Au Bc Ba At) Ae Aw Al Aj Ai Bd Aq):=D_strips_of.cal fun f fd F=>Ye F T L Casked_of Cnumbers_of Cpaid_runs Cborne_strips Ccut_out
 have C_law_cell:Cn l.prog w K mg base 1 "_law_cell" ["_law_script", "_law_k"] (Oo K):=D__law_cell.cal fun f fd F=>Yi F T;have C_law_whole:Cn l.prog w K mg base 1 "_law_whole" ["_law_found"] (Ik K):=D__law_whole.cal fun f fd F=>Ts F T;have C_law_spread:Cn l.prog w K mg base 1 "_law_spread" ["_law_cell_here"] Ia:=D__law_spread.cal fun f fd F=>Sn F T;have C_law_names:Cn l.prog w K mg base 1 "_law_names" ["_law_cell_here", "_law_many"] Qk:=D__law_names.cal fun f fd F=>Ux F T;have C_law_amount:Cn l.prog w K mg base 1 "_law_amount" ["_law_digit", "_law_unit_here"] Vr:=D__law_amount.cal fun f fd F=>Rh F T;have C_law_unit:Cn l.prog w K mg base 2 "_law_unit" ["_law_script"] (M1 K):=D__law_unit.cal fun f fd F=>Yu F T C_law_cell C_law_spread;have C_law_key:Cn l.prog w K mg base 1 "_law_key" ["_law_by", "_law_loss_here"] N8:=D__law_key.cal fun f fd F=>Zb F T;have C_law_drawn_clause:Cn l.prog w K mg base 2 "_law_drawn_clause" ["_law_cell_here", "_law_unit_here"] KH:=D__law_drawn_clause.cal fun f fd F=>Kg F T C_law_amount;have C_law_world:Cn l.prog w K mg base 2 "_law_world" ["_law_script", "_law_most"] (Wu K):=D__law_world.cal fun f fd F=>Ui F T C_law_cell C_law_spread C_law_names;have C_law_cond:Cn l.prog w K mg base 2 "_law_cond" ["_law_cell_here", "_law_things", "_law_causes", "_law_unit_here"] I9:=D__law_cond.cal fun f fd F=>Xr F T C_law_amount;have C_law_loss:Cn l.prog w K mg base 1 "_law_loss" ["_law_cell_here", "_law_world_here", "_law_unit_here"] J1:=D__law_loss.cal fun f fd F=>Xk F T
 have C_law_losses:Cn l.prog w K mg base 2 "_law_losses" ["_law_script", "_law_many", "_law_world_here", "_law_unit_here"] (Rx K):=D__law_losses.cal fun f fd F=>Sz F T C_law_loss;have C_law_clause:Cn l.prog w K mg base 6 "_law_clause" ["_law_clause_here"] (EN Ae Aw Al Aj):=D__law_clause.cal fun f fd F=>Sh F T KOwn KLayer KLimit;have C_law_covers:Cn l.prog w K mg base 3 "_law_covers" ["_law_script", "_law_names_here", "_law_things", "_law_causes", "_law_unit_here"] (G0 K):=D__law_covers.cal fun f fd F=>Si F T C_law_cell C_law_spread C_law_drawn_clause C_law_cond;have C_law_form:Cn l.prog w K mg base 2 "_law_form" ["_law_strips", "_law_cents"] M3:=D__law_form.cal fun f fd F=>Wz F T C_law_whole;have C_law_condition:∀ m,Cn l.prog w K mg base (m+2) "_law_condition" ["_law_cond_here"] (U7 (A8.mk Ac Ah Ag Am Au Bc Ba At) m):=by
  intro m
  induction m with
  | zero=>
   refine D__law_condition.cal fun f fd F=>HI fun _ _ _ _ z=>?_;obtain⟨_,_,_,_,z,_⟩:=z;exact zBm _ z
  | succ m ih=>exact D__law_condition.cal fun f fd F=>Mh F L ih NCondition KCauseIs KThingIs KDaysIn KOver KNot KAll KSome
 have C_law_book:Cn l.prog w K mg base 8 "_law_book" ["_law_covers_here"] (Yg (A8.mk Ac Ah Ag Am Au Bc Ba At) Ae Aw Al Aj Ai Bd):=D__law_book.cal fun f fd F=>Ya F T C_law_clause (C_law_condition 3) KCover KBook;have C_law_state:Cn l.prog w K mg base 2 "_law_state" ["_law_covers_here", "_law_loss_here", "_law_cell_here", "_law_unit_here"] Wx:=D__law_state.cal fun f fd F=>Uh F T C_law_amount C_law_key;have C_law_counts:Cn l.prog w K mg base 3 "_law_counts" ["_law_had_of"] (M5 Aq):=D__law_counts.cal fun f fd F=>Sj F T KCounts Madd;have C_law_limits:Cn l.prog w K mg base 1 "_law_limits" ["_law_covers_here"] Rr:=D__law_limits.cal fun f fd F=>Rk F T;have C_law_raised:Cn l.prog w K mg base 1 "_law_raised" ["_law_covers_here", "_law_place", "_law_more"] Rg:=D__law_raised.cal fun f fd F=>Sf F T;have C_law_still_paid:Cn l.prog w K mg base 1 "_law_still_paid" ["_law_strips", "_law_others"] Yn:=D__law_still_paid.cal fun f fd F=>Lv F T;exact KA F46 T L C_law_cell C_law_spread C_law_names C_law_amount C_law_unit C_law_world C_law_covers C_law_book C_law_losses C_law_state C_law_counts Cstrips_of C_law_form C_law_limits C_law_raised C_law_still_paid
theorem walk {l:PySem.W.OpenLaw} {q:Program} {loose:List Str} {XP:(Str->Option Value)->Heap->Prop} {YP:World->Heap->Prop} {d:DefRec} {K:Params->zAa} (hn:l.most=some 63) (hdf:d.params.defaults=[])
  (hY:∀ (w:World) (h:Heap),YP w h->(K w.params).In h)
  (F:∀ (w:World) (mg:Str->Option Value) (fa:Addr) (h:Heap),(K w.params).In h->h.Ns zCD mg->mg d.name=some (.ref fa) ->
   ∃ fd:zCC,(∀ (s:Shared) (u:Value),BindsTo s fd ⟨[u],[]⟩ [("_law_script",u)])/\∀ base:Heap,(K w.params).In base->base.Ns zCD mg->FnOk l.prog w (K w.params) mg base Cu 9 fa fd ["_law_script"] (U9 (K w.params))) :
  PySem.W.WalkO q loose XP YP l.row.toRowW d [] (fun f vs=>PySem.call f vs):=
 L2.walk_of (n:=63) (k:=9) (x := "_law_script") (CX:=fun _=>Cu) (sp:=fun w=>U9 (K w.params)) hn (by decide) hdf ⟨rfl,by decide,by decide⟩ hY F (fun _ _ a ns hl _ hS=>⟨a,ns,rfl,hS,hl,fun _=>rfl⟩) fun _ _ _ _ _ z=>z
end CRL
open PySem PySem.W PyProof.Rows
namespace PySem.W.Fast
def tw13213569412105412229:=0
def tw13226750896369435343:=0
def tw17109217942943504935:=0
def tw10134211423998714018:=0
def tw8430876965821218981:=0
def tw10234089643131072555:=0
def tw2957392476606698745:=0
def tw4269693201401181977:=0
def tw14130352098157857950:=0
def tw7645623342328002932:=0
def tw13904661256311098137:=0
def tw12338596072128385019:=0
def tw3788542686923294280:=0
def tw12268440971281372483:=0
def tw8715000803849594720:=0
def tw566040714648061401:=0
def tw10513303571228580117:=0
def tw4543952303868421229:=0
def tw17499807632134283449:=0
def tw10067821714693722998:=0
def tw13708162795428838411:=0
def tw5000635626856642607:=0
def tw11657705373515236305:=0
def tw14723407379890350962:=0
def tw9375931382640831573:=0
def tw16750986327086450338:=0
def tw5673168342791157816:=0
def tw11525658309333540515:=0
def tw79034770097456697:=0
def tw10605782523362880784:=0
def tw16305814616171862550:=0
def tw2784550118895769150:=0
def tw6696205131107438334:=0
def tw12177966214098825063:=0
def tw10992633246860724602:=0
def tw11580116636687764045:=0
def tw13362010538564953206:=0
def tw2706597097410488310:=0
def tw2532613682740025158:=0
def tw7750568987973427604:=0
def tw14998201927303896663:=0
def tw16547212865577959621:=0
def tw6948367338533700321:=0
def tw5554880580466149400:=0
def tw18083767604311372353:=0
def tw9168042882099604320:=0
def tw17399050435479550845:=0
def tw6206352570017379845:=0
def tw9903924600549462910:=0
def tw15059957356840978596:=0
def tw15671226372026182601:=0
def tw6079142316166121212:=0
def tw13601719583130421951:=0
def tw9320487995119329791:=0
def tw11048725249548888836:=0
def tw6949908283493021935:=0
def tw3409386663938180138:=0
def tw9294591308965047900:=0
def tw3709450425226066083:=0
def tw12164277228051980468:=0
def tw4962042211518251606:=0
def tw2009074783035111231:=0
def tw11080350036955763676:=0
def tw775156040226278261:=0
def tw8125681712148410804:=0
def tw16684266107176392963:=0
def tw9476522041995260035:=0
def tw11706791626888358455:=0
def tw11317522821555067135:=0
def tw4627691277143960888:=0
def tw3905201309953004527:=0
def tw9845200080259300885:=0
def tw2124200384020450021:=0
def tw13190491723046494477:=0
def tw12136263190026198735:=0
def tw9174978292530607154:=0
def tw8950660143639499941:=0
def tw7339188869003142332:=0
def tw5918713965750570802:=0
def tw13153749623991271282:=0
def tw579508395062626982:=0
def tw4387463142504595277:=0
def tw14681247719067015833:=0
def tw12022872993105390971:=0
def tw14822440830095238493:=0
def tw16613353309989477659:=0
def tw3424840041967051954:=0
def tw12886769327191176444:=0
def tw303113734469297966:=0
def tw2927420795470778859:=0
def tw12253812493833817191:=0
def tw9727127145069512537:=0
def tw17022479415966681765:=0
def tw3035739476098500878:=0
def tw13562911888399353863:=0
def tw954530274433478149:=0
def tw10418313952252856100:=0
def tw7945353771444219523:=0
def tw5147154910305455621:=0
def tw4482704968560974423:=0
def tw412100304814707590:=0
def tw15045683975350508649:=0
def tw18100507085904095782:=0
def tw10926740566558299136:=0
def tw8610122606697872577:=0
def tw3512728174704459211:=0
def tw16624542529199702200:=0
def tw15146861710065480975:=0
def tw4416363743848218155:=0
def tw2130307346606057467:=0
def tw7747176286203448184:=0
def tw1846614378750009756:=0
def tw15550726296707215347:=0
def tw2461341335285723801:=0
def tw11062430232392383722:=0
def tw16974012760262689034:=0
def tw7255868795162849719:=0
def tw11817632060214789979:=0
def tw7189648523889518475:=0
def tw2143028364831523742:=0
def tw15263659402057579822:=0
def tw9075575217715285816:=0
def tw5390724997695319052:=0
def tw1983732363226966085:=0
def tw10296722867612111313:=0
def tw17955015385661509786:=0
def tw760329091298191452:=0
def tw16114435987309851710:=0
def tw7860476461315426437:=0
def tw3450645035873120691:=0
def tw14595046159802164517:=0
def tw7651896879384962075:=0
def tw6161328758122301350:=0
def tw5736319075640975909:=0
def tw7142812499718515047:=0
def tw2654373403142093080:=0
def tw17078926684681757759:=0
def tw11317420948537609586:=0
def tw14591299664359377600:=0
def tw1258707987182772685:=0
def tw5100802739313328556:=0
def tw13581451106925879442:=0
def tw4515739679509493618:=0
def tw11061996259078865577:=0
def tw12454451387993939120:=0
def tw16496518903188136420:=0
def tw17124129422621614878:=0
def tw2498968710979884063:=0
def tw11512052842513494385:=0
def tw3882670149895010832:=0
def tw14381083316947331858:=0
def tw16631983879477413420:=0
def tw391503160089491292:=0
def tw10013874804121821497:=0
def tw4240450649184368731:=0
def tw7303788965852592501:=0
def tw7773383072673475248:=0
def tw20504704446326758:=0
def tw1955112124970140236:=0
def tw8034238548963465232:=0
def tw996190175102886648:=0
def tw17494081272541682567:=0
def tw6324254652254547938:=0
def tw4220467591428211049:=0
def tw14766475927867967891:=0
def tw12397048443409651367:=0
def tw6283983047025947689:=0
def tw9877038529207407785:=0
def tw14115819290554081105:=0
def tw3304717579084434508:=0
def tw12995698463144150223:=0
def tw16991556381795611299:=0
def tw14651194443614197414:=0
def tw15639980407251037854:=0
def tw8606264526498355206:=0
def tw8228555100462301623:=0
def tw3831644200960497638:=0
def tw9897626566146401468:=0
def tw17851915582015650207:=0
def tw2180629083795907559:=0
def tw16436695473938409087:=0
def tw16526361794903929663:=0
def tw4568893609747240806:=0
def tw15598886353742019867:=0
def tw5858543001792913762:=0
def tw9533344528151866208:=0
def tw2447213482449686365:=0
def tw8986023006754796404:=0
def tw8745297076747362302:=0
def tw618084521419066182:=0
def tw6491988029681683203:=0
def tw10891605798184835551:=0
def tw16847178095621103213:=0
def tw7901009163025758327:=0
def tw5734725777306623936:=0
def tw14503952254082796979:=0
def tw3662749133723277735:=0
def tw1952614592452786403:=0
def tw2412135687636438889:=0
def tw7305991198719703680:=0
def tw12368924798754785905:=0
def tw6393170842297649674:=0
def tw1822299643958272295:=0
def tw1671523270795756924:=0
def tw8248225482067562821:=0
def tw2773283361150568686:=0
def tw5761856266650489939:=0
def tw13104645844747476368:=0
def tw14412714671429952519:=0
def tw2715350922519061510:=0
def tw16700854812002081282:=0
def tw9428452714379025395:=0
def tw16121867908596789563:=0
def tw10269980497828578939:=0
def tw12113013398729872004:=0
def tw110676607854530178:=0
def tw1280189340545527990:=0
def tw9918699435319754757:=0
def tw12255856500218286547:=0
def tw15550981659450762363:=0
def tw3785874487221112848:=0
def tw6085259861797152872:=0
def tw8156307751737934518:=0
def tw6919746148011649016:=0
def tw2785775216054036953:=0
def tw11366285365191972623:=0
def tw892495431658883061:=0
def tw5985927634142348464:=0
def tw14975536391199551380:=0
def tw4468063152077816445:=0
def tw708557269091689020:=0
def tw7146765953290150742:=0
def tw14285867970951305595:=0
def tw941407947811928438:=0
def tw4432084677728676644:=0
def tw17052387615237454064:=0
def tw9001111474899389047:=0
def tw7619995388548866464:=0
def tw7739750407627322928:=0
def tw17905712889906190157:=0
def tw3536345464819281182:=0
def tw1468335504050779584:=0
def tw7914024770790823791:=0
def tw13129905469097264665:=0
def tw13689573064145973365:=0
def tw9930969192031503081:=0
def tw13736925627095846454:=0
def tw10808358473866507817:=0
def tw801687677133991068:=0
def tw1937843000739058058:=0
def tw7792067348936112205:=0
def tw12848698540896583413:=0
def tw5922846598880516657:=0
def tw832897354807112844:=0
def tw6161318944285780283:=0
def tw7171057284820966949:=0
def tw8877497488542229227:=0
def tw15147554539477141305:=0
def tw6831366740090583612:=0
def tw8015077409926497791:=0
def tw10991096212152166253:=0
def tw13333696694527967571:=0
def tw9386709710738311252:=0
def tw7087543101361239547:=0
def tw2370735217406765311:=0
def tw17946973083200671858:=0
def tw8772324137549086387:=0
def tw3145557320166960314:=0
def tw2495421554598977316:=0
def tw2009269290491162328:=0
def tw9485286683247417586:=0
def tw12303997427585861440:=0
def tw14374638765144041693:=0
def tw17892264273579193431:=0
def tw10664479483220471878:=0
def tw259920119473421114:=0
def tw9591309872434645392:=0
def tw7195200189276634732:=0
def tw9865751786859674934:=0
def tw11319143089629050943:=0
def tw4557033150554351998:=0
def tw12663334218600480403:=0
def tw12800705661399224609:=0
def tw689012105493610621:=0
def tw4004453031883178399:=0
def tw3557765641412371736:=0
def tw3425256108056602162:=0
def tw9979417712212347817:=0
def tw809909650917490044:=0
def tw5091896240347008684:=0
def tw5387959247449276031:=0
def tw14874583417406479076:=0
def tw9358364081507268661:=0
def tw6617291871508295701:=0
def tw11698459170994504408:=0
def tw16612186499061032761:=0
def tw5057285192560850209:=0
def tw2091154069861646331:=0
def tw11456515311072480654:=0
def tw8006819742482145650:=0
def tw15598391435208113569:=0
def tw1987047780885248919:=0
def tw4398213070366097081:=0
def tw2271621725538734329:=0
def tw4291869924314247976:=0
def tw15536954570634952005:=0
def tw13416417626280398551:=0
def tw12845858114876799833:=0
def tw7211857615725061732:=0
def tw4733025391820422648:=0
def tw1378828083465125508:=0
def tw18152843268247933754:=0
def tw15342138692712053006:=0
def tw1853226589556517636:=0
def tw5216619116182341769:=0
def tw1791842043175729242:=0
def tw3988733808735284279:=0
def tw9889001259043955469:=0
def tw14901801919052507395:=0
def tw12474983516600868412:=0
def tw11837678260660383168:=0
def tw7481836296575813407:=0
def tw1736172214607595067:=0
def tw15708744628898742753:=0
def tw1996443382883687405:=0
def tw12998519481782945619:=0
def tw1100821545643503677:=0
def tw14344792193320411056:=0
def tw11041380028413892663:=0
def tw5569180454582549973:=0
def tw6977203146310329078:=0
def tw17684285162744777492:=0
def tw11926472879254309951:=0
def tw11375513683147347193:=0
def tw6530801305549989422:=0
def tw17004703180725970084:=0
def tw8968120290472034423:=0
def tw5525262485270201225:=0
def tw4251917461784085070:=0
def tw13596402228385110871:=0
def tw15660853728594061710:=0
def tw12645040728656872487:=0
def tw12919296908217016469:=0
def tw12259187712470408285:=0
def tw1399893106502413110:=0
def tw12584226011654100155:=0
def tw4560403441378534067:=0
def tw2476867033511334404:=0
def tw16772430964158100227:=0
def tw12246663078027493346:=0
def tw17406216099202557617:=0
def tw17543765743277525278:=0
def tw7064379308322423949:=0
def tw3310565715514283467:=0
def tw6931591334508093558:=0
def tw12136535059121813368:=0
def tw1697151237659841634:=0
def tw12016325396962571295:=0
def tw4824383221517788044:=0
def tw141315219018864524:=0
def tw13985184784462222872:=0
def tw9980207534261540935:=0
def tw9816666695497138107:=0
def tw9327766690765161945:=0
def tw8017381460700413872:=0
def tw4866597854396696161:=0
def tw3279010450215092968:=0
def tw2892378647030478319:=0
def tw2448526009525035239:=0
def tw18434667201095641178:=0
def tw1694616712389500156:=0
def tw14467571802810303582:=0
def tw13851656423781481671:=0
def tw12616725859012541475:=0
def tw10727119429214769100:=0
def tw10442012117680889973:=0
def tw10194229362974037735:=0
def tw1208318798895451344:=0
def tw717118796129775127:=0
def tw11117742795094478553:=0
def tw2139446666376646815:=0
def tw8929514001896622888:=0
def tw6098700951312387474:=0
def tw5297059960615880250:=0
def tw52542251799545581:=0
def tw1754502618347745086:=0
def tw13755650354259987589:=0
def tw11995293413264587127:=0
def tw16163125657767905766:=0
def tw6382628461984769591:=0
def tw4346281486318607615:=0
def tw17785570316707626896:=0
def tw17555452300548455259:=0
def tw9727462017734367536:=0
def tw7541800598234897779:=0
def tw13260914984665194190:=0
def tw6769341466583853550:=0
def tw6592613311188020967:=0
def tw2376417673658002981:=0
def tw829052768110168422:=0
def tw4905143904849006223:=0
def tw11469568045304161335:=0
def tw16984296923666495568:=0
def tw129636295155592543:=0
def tw11125537938589792672:=0
def tw9519113321237731392:=0
def tw802645015149785768:=0
def tw2077668847032980668:=0
def tw514789887080201407:=0
def tw7208465656544252170:=0
def tw5869822862553631390:=0
def tw16527173196540240496:=0
def tw11055732787347437757:=0
def tw6170189834199476311:=0
def tw14632924996317019329:=0
def tw5667616605311408562:=0
def tw4649534170094732173:=0
def tw10663225415803470992:=0
def tw6556833179666857633:=0
def tw12006888036060815622:=0
def tw8441906427432281297:=0
def tw4793590380436335799:=0
def tw4358257364028529356:=0
def tw2373398916159555144:=0
def tw17894214516710169102:=0
def tw7766426680325815509:=0
def tw572287990657117338:=0
def tw4544719401375663461:=0
def tw17950819887699866309:=0
def tw1149414334466571770:=0
def tw15937803745236118776:=0
def tw14160126780046713886:=0
def tw12172766540010333317:=0
def tw4412401455072498072:=0
def tw8897048030801247885:=0
def tw4874184729699750825:=0
def tw8254835093217322256:=0
def tw6869235147162958563:=0
def tw4171848233421242327:=0
def tw9704793703968582127:=0
def tw15183398793705522313:=0
def tw14032418402339445249:=0
def tw9951909949474705605:=0
def tw9838770416076872343:=0
def tw9578326614049748089:=0
def tw9011641153590954442:=0
def tw8503965361391641537:=0
def tw8261553491837347678:=0
def tw7949090595349314870:=0
def tw743281936302278281:=0
def tw7309333525263043847:=0
def tw6091924789055581960:=0
def tw4916391687328419453:=0
def tw4719004116117102530:=0
def tw4549859346115977117:=0
def tw4326912809736360879:=0
def tw3860294135094603490:=0
def tw3730312527646191845:=0
def tw3520811877756881394:=0
def tw3392874326606367455:=0
def tw2549898949426589212:=0
def tw2503923152224950741:=0
def tw2243982599226266983:=0
def tw1927717222294696930:=0
def tw18313739616967333943:=0
def tw18243630272000566496:=0
def tw18236644926624069794:=0
def tw17097463356509304826:=0
def tw16022466408773863890:=0
def tw15636798377174339445:=0
def tw15348324426845150742:=0
def tw14943767140542981344:=0
def tw14647511776867883646:=0
def tw14115955129351648494:=0
def tw13698890819339706071:=0
def tw12788194441279759826:=0
def tw12563195054464837872:=0
def tw12369260606130669386:=0
def tw1157190317544690631:=0
def tw10223245814231191365:=0
def tw16652174966946254475:=0
def tw8293140246751718752:=0
def tw6860293132441593065:=0
def tw6588269151932461397:=0
def tw14428852003974419602:=0
def tw7240034588799872971:=0
def tw16907898512645792538:=0
def tw17579041490577727463:=0
def tw11008544422342966745:=0
def tw6154922804642173677:=0
def tw13384688889946797238:=0
def tw7443186320058482750:=0
def tw7334805876653901234:=0
def tw6679473009979590069:=0
def tw6280972769862378042:=0
def tw13694908770278212152:=0
def tw12738320988387280530:=0
def tw10527056305465859055:=0
def tw13679633711373209598:=0
def tw10928492263944505798:=0
def tw9972122944481217822:=0
def tw3084866713741649206:=0
def tw17965998103450041748:=0
def tw11251564770634398357:=0
def tw3574601947029123526:=0
def tw17491710188893240718:=0
def tw16076395243202956304:=0
def tw11923962348783332629:=0
def tw2602773687503130737:=0
def tw8117487829569207128:=0
def tw8094919122387339604:=0
def tw777686382770761925:=0
def tw7758698963551460562:=0
def tw665765839641828157:=0
def tw5334524255532661416:=0
def tw4580764339288449605:=0
def tw3641975649967438805:=0
def tw2209020157863128677:=0
def tw17528644282844188197:=0
def tw16787895177093447729:=0
def tw16442651197347669233:=0
def tw1637679487121934751:=0
def tw15935481931500284124:=0
def tw14864678253515577073:=0
def tw1437451684386212394:=0
def tw13801763556757793934:=0
def tw13417635445407709344:=0
def tw12722500019068979450:=0
def tw11386003744632842096:=0
def tw10860145465701492369:=0
def tw6550491122394256710:=0
def tw4655382338545662312:=0
def tw17519909002090384933:=0
def tw15850567909278578468:=0
def tw15773358216152861823:=0
def tw14980742087737712330:=0
def tw10457979618398510026:=0
def tw10003912950798031984:=0
def tw10944673814004774406:=0
def tw9138458672266809217:=0
def tw7357025516695542442:=0
def tw4708230176218680484:=0
def tw1785264342344428348:=0
def tw11919891704293919510:=0
def tw8373736694855446813:=0
def tw5022321075321994725:=0
def tw16908750897441244339:=0
def tw12872717894228880115:=0
def tw2752541450868534428:=0
def tw1922303050835281165:=0
def tw3534228213556004799:=0
def tw15176610450611038147:=0
def tw8381606821091464431:=0
def tw212866425183832832:=0
def tw16146774094225125736:=0
def tw12248294086124358403:=0
def tw7254131675156483093:=0
def tw2110294799254029911:=0
def tw13896157461147292335:=0
def tw3329563486147150992:=0
def tw16368300535103374657:=0
def tw9567606934784413672:=0
def tw881688359790899459:=0
def tw3868223755143407780:=0
def tw12416105717234637982:=0
def tw10412261279526507082:=0
def tw8363278792513928723:=0
def tw3471837202851590050:=0
def tw13676671946021446438:=0
def tw5243798576485139557:=0
def tw10625381770132695638:=0
def tw2421169954469026510:=0
def tw1500095379490268620:=0
def tw1779215264451058158:=0
def tw15389786964931593736:=0
def tw7512992744791470278:=0
def tw3996524637339067299:=0
def tw18092086411489830040:=0
def tw14746231886319054217:=0
def tw13329377179005521831:=0
def tw1909101182406688992:=0
def tw14623287580015472828:=0
def tw7763667677032173160:=0
def tw723229433181828727:=0
def tw6750424890382379994:=0
def tw6093820114384229058:=0
def tw5490080545257719182:=0
def tw3395402213595372128:=0
def tw3373179270545284412:=0
def tw2669936039070887818:=0
def tw1840590036710560217:=0
def tw17184579017084726049:=0
def tw17046246736316092016:=0
def tw16620438148170040901:=0
def tw12280184107544532282:=0
def tw11787938803144132292:=0
def tw1036193526613454020:=0
def tw10075253900125104834:=0
def tw10559957179669983123:=0
def tw3052731925328970859:=0
def tw9740544613977385798:=0
def tw5331700204608165849:=0
def tw17116145923784152962:=0
def tw15687369360773493535:=0
def tw4461546767321727051:=0
def tw13667140574306035503:=0
def tw8878358903407048469:=0
def tw719982473952257489:=0
def tw16288609303639966633:=0
def tw1593726458936384497:=0
end PySem.W.Fast
set_option tactic.hygienic true in
set_option maxRecDepth 100000 in
set_option maxHeartbeats 0 in
theorem PySem.Challenge.cw_coverroll_k42_whole_a_cover_more_holds : PySem.Challenge.rw_coverroll_k42_whole_a_cover_more.Holds := by
 w_on; o_law; k_head; (case hw=>w_witness2)
 k_fill
 refine CRL.walk (l:=PySem.Challenge.rw_coverroll_k42_whole_a_cover_more) rfl rfl (fun w h Y=>PySem.W.kIn_of Y) ?F
 case F=>
  intro w mg fa h KX G hmg
  refine' CRL.all_mk KX G hmg ?d0 ?d1 ?d2 ?d3 ?d4 ?d5 ?d6 ?d7 ?d8 ?d9 ?d10 ?d11 ?d12 ?d13 ?d14 ?d15 ?d16 ?d17 ?d18 ?d19 ?d20 ?d21 ?d22 ?d23 ?d24 ?d25 ?d26 ?d27 ?d28 ?d29 ?d30 ?d31 ?d32 ?d33 ?d34 ?d35 ?d36 ?d37 ?d38 ?d39 ?d40 ?d41 ?d42 ?d43 ?d44 ?d45 ?d46 ?q_Condition ?q_CauseIs ?na_CauseIs_name ?q_ThingIs ?na_ThingIs_name ?q_DaysIn ?na_DaysIn_first ?na_DaysIn_last ?q_Over ?na_Over_cents ?q_Not ?na_Not_part ?q_All ?na_All_several ?q_Some ?na_Some_several ?q_Clause ?na_Clause_by ?ha_Clause ?hm_Clause ?gs ?tk ?q_Own ?na_Own_cents ?na_Own_by ?ha_Own ?hm_Own ?q_Layer ?na_Layer_first ?na_Layer_upto ?na_Layer_by ?ha_Layer ?hm_Layer ?q_Limit ?na_Limit_most ?na_Limit_by ?ha_Limit ?hm_Limit ?q_Deal ?na_Deal_wheel ?na_Deal_weights ?q_Cover ?na_Cover_name ?na_Cover_condition ?na_Cover_clauses ?na_Cover_houses ?na_Cover_deal ?na_Cover_waits ?q_Book ?na_Book_covers ?na_Book_asking ?q_Counts ?na_Counts_kept ?kt_Clause_Limit ?kt_Own_Limit ?kt_Layer_Limit ?kt_Limit_Limit ?nd_C ?a_Condition_holds ?iCondition_holds ?a_CauseIs___init__ ?iCauseIs___init__ ?a_CauseIs_holds ?iCauseIs_holds ?a_ThingIs___init__ ?iThingIs___init__ ?a_ThingIs_holds ?iThingIs_holds ?a_DaysIn___init__ ?iDaysIn___init__ ?a_DaysIn_holds ?iDaysIn_holds ?a_Over___init__ ?iOver___init__ ?a_Over_holds ?iOver_holds ?a_Not___init__ ?iNot___init__ ?a_Not_holds ?iNot_holds ?a_All___init__ ?iAll___init__ ?a_All_holds ?iAll_holds ?a_Some___init__ ?iSome___init__ ?a_Some_holds ?iSome_holds ?a_Clause___init__ ?iClause___init__ ?a_Clause_span ?iClause_span ?a_Clause_room ?iClause_room ?a_Clause_key ?iClause_key ?a_Own___init__ ?iOwn___init__ ?a_Own_span ?iOwn_span ?a_Layer___init__ ?iLayer___init__ ?a_Layer_span ?iLayer_span ?a_Limit___init__ ?iLimit___init__ ?a_Limit_room ?iLimit_room ?a_Deal___init__ ?iDeal___init__ ?a_Cover___init__ ?iCover___init__ ?lCover___init__ ?cCover___init__ ?kCover___init__ ?dlCover___init__ ?a_Cover_asks ?iCover_asks ?a_Cover_spans ?iCover_spans ?a_Cover_window ?iCover_window ?a_Cover_parts ?iCover_parts ?a_Cover_rest ?iCover_rest ?a_Book___init__ ?iBook___init__ ?a_Counts___init__ ?iCounts___init__ ?a_Counts_have ?iCounts_have ?a_Counts_add ?iCounts_add ?a_Own_room ?a_Own_key ?a_Layer_room ?a_Layer_key ?a_Limit_span ?a_Limit_key ?bg_Clause___init__ ?br_Clause___init__ ?bf_Clause___init__ ?ni_Condition ?z_WAYS ?lw_WAYS ?z_CAUSE ?z_CENTS ?z_COVERED_ONE ?z_DAY ?z_DAYS_OF_YEAR ?z_EVENT ?z_LETTERS ?z_LONGEST_NAME ?z_MOST_CENTS ?z_MOST_CLAUSES ?z_MOST_COVERS ?z_MOST_PLACES ?z_MOST_TURNS ?z_NUMBER ?z_THING ?z_bool ?z_enumerate ?z_int ?z_isinstance ?z_len ?z_list ?z_max ?z_min ?z_range ?z_set ?z_sorted ?z_str ?z_sum ?z_tuple ?z_zip
  (case q_Condition|q_CauseIs|q_ThingIs|q_DaysIn|q_Over|q_Not|q_All|q_Some|q_Clause|q_Own|q_Layer|q_Limit|q_Deal|q_Cover|q_Book|q_Counts => (constructor <;> k_is))
  (case na_CauseIs_name|na_ThingIs_name|na_DaysIn_first|na_DaysIn_last|na_Over_cents|na_Not_part|na_All_several|na_Some_several|na_Clause_by|ha_Clause|hm_Clause|gs|tk|na_Own_cents|na_Own_by|ha_Own|hm_Own|na_Layer_first|na_Layer_upto|na_Layer_by|ha_Layer|hm_Layer|na_Limit_most|na_Limit_by|ha_Limit|hm_Limit|na_Deal_wheel|na_Deal_weights|na_Cover_name|na_Cover_condition|na_Cover_clauses|na_Cover_houses|na_Cover_deal|na_Cover_waits|na_Book_covers|na_Book_asking|na_Counts_kept|a_Condition_holds|a_CauseIs___init__|a_CauseIs_holds|a_ThingIs___init__|a_ThingIs_holds|a_DaysIn___init__|a_DaysIn_holds|a_Over___init__|a_Over_holds|a_Not___init__|a_Not_holds|a_All___init__|a_All_holds|a_Some___init__|a_Some_holds|a_Clause___init__|a_Clause_span|a_Clause_room|a_Clause_key|a_Own___init__|a_Own_span|a_Layer___init__|a_Layer_span => k_is)
  (case a_Limit___init__|a_Limit_room|a_Deal___init__|a_Cover___init__|iCover___init__|lCover___init__|cCover___init__|kCover___init__|dlCover___init__|a_Cover_asks|a_Cover_spans|a_Cover_window|a_Cover_parts|a_Cover_rest|a_Book___init__|a_Counts___init__|a_Counts_have|a_Counts_add|a_Own_room|a_Own_key|a_Layer_room|a_Layer_key|a_Limit_span|a_Limit_key|bg_Clause___init__|br_Clause___init__|bf_Clause___init__|ni_Condition|z_WAYS|lw_WAYS|z_CAUSE|z_CENTS|z_COVERED_ONE|z_DAY|z_DAYS_OF_YEAR|z_EVENT|z_LETTERS|z_LONGEST_NAME|z_MOST_CENTS|z_MOST_CLAUSES|z_MOST_COVERS|z_MOST_PLACES|z_MOST_TURNS|z_NUMBER|z_THING|z_bool|z_enumerate|z_int|z_isinstance|z_len|z_list|z_max|z_min|z_range|z_set|z_sorted|z_str|z_sum|z_tuple|z_zip => k_is)
  (case d0|d1|d2|d3|d4|d5|d6|d7|d8|d9|d10|d11|d12|d13|d14|d15|d16|d17|d18|d19|d20|d21|d22|d23|d24|d25|d26|d27|d28|d29|d30|d31|d32|d33|d34|d35|d36|d37|d38|d39|d40|d41|d42|d43|d44|d45|d46 => (apply L2.DfIn.of <;> k_is))
  (case iCondition_holds|iCauseIs___init__|iCauseIs_holds|iThingIs___init__|iThingIs_holds|iDaysIn___init__|iDaysIn_holds|iOver___init__|iOver_holds|iNot___init__|iNot_holds|iAll___init__|iAll_holds|iSome___init__|iSome_holds|iClause___init__|iClause_span|iClause_room|iClause_key|iOwn___init__|iOwn_span|iLayer___init__|iLayer_span|iLimit___init__|iLimit_room|iDeal___init__|iCover_asks|iCover_spans|iCover_window|iCover_parts|iCover_rest|iBook___init__|iCounts___init__|iCounts_have|iCounts_add => (apply L2.MtIn.of <;> k_is))
  (case kt_Clause_Limit|kt_Own_Limit|kt_Layer_Limit|kt_Limit_Limit => kit_is)
  (case nd_C => decide)

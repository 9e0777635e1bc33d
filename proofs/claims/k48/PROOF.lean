import PyProof.Rows.All
import Wide.All
import OpenK.AllK
import Wide.FinOn
import Lean
import PyProof.EqAt
import PyProof.EqKinds
import PyProof.TupleCall
import PySem.Challenge.RW_coverroll_k48_what_is_counted
set_option tactic.hygienic false
set_option Elab.async false
set_option linter.all false
set_option maxRecDepth 100000
set_option maxHeartbeats 4000000
open PySem.W renaming Frag -> zAa, findIn -> zAc, mg_of -> zAx, nsIn -> zAF, mg_none_of -> zAM, emptyDict -> zAP, keepIn -> zAQ, kitOne -> zAR, fnOf -> zAV, instObj -> zAZ, kia_one -> zBf, codeIn -> zBm, callWith_K -> zBC, methodCall_KW -> zBU, plainGet -> zBZ, makesIn -> zCk, isFn -> zCm, hasDictIn -> zCp, specialIn -> zCq, mroIn -> zCs
open List renaming length_map -> zAb, mem_cons_of_mem -> zAd, getElem?_eq_getElem -> zAe, length_cons -> zAg, size_toArray -> zAh, length_append -> zAi, getElem?_eq_some_iff -> zAj, mem_cons_self -> zAk, mem_cons -> zAn, mem_singleton -> zAo, map_append -> zAp, getD_eq_getElem?_getD -> zAr, getElem?_map -> zAs, length_take -> zAt, take_length -> zAw, mem_append -> zAz, mem_of_getElem? -> zAB, mem_map -> zAD, length_filter_le -> zAG, replicate -> zAH, map_cons -> zAK, range -> zAL, length_range -> zAN, mem_append_right -> zAO, pairwise_cons -> zAS, mem_filter -> zAT, append_nil -> zAU, nodup_cons -> zAW, getElem_of_mem -> zAX, getElem_mem -> zBb, not_mem_nil -> zBc, pairwise_iff_getElem -> zBd, length_replicate -> zBe, filter_nil -> zBi, map_map -> zBk, filter_cons_of_pos -> zBn, filter_cons_of_neg -> zBo, replicate_succ -> zBr, nodup_iff_pairwise_ne -> zBt, mem_range -> zBu, drop_eq_getElem_cons -> zBv, flatten_cons -> zBw, lookup_cons -> zBA, drop_length -> zBB, filter_append -> zBD, any_cons -> zBE, pairwise_map -> zBG, take_zero -> zBJ, all_eq_true -> zBK, length_erase_of_mem -> zBL, find?_cons -> zBM, range_succ -> zBO, length_pos_of_mem -> zBR, append_assoc -> zBS, drop_sublist -> zBT, getElem?_eq_none -> zBW, getElem?_toArray -> zBX, mem_append_left -> zBY, length_drop -> zCa, getElem_toArray -> zCb, mem_erase_of_ne -> zCd, mem_flatten -> zCe, getElem?_append_right -> zCf, all_cons -> zCg, lookup -> zCi, filterMap_cons -> zCj, eq_of_mem_replicate -> zCo, zipWith_cons_cons -> zCr, cons_append -> zCt
open PySem.Heap renaming get?_push_of_some -> zAf, lt_size -> zAq, get?_push_size -> zAy, SameBut -> zBg, size_push -> zBy, get?_update_other -> zBP, get?_update_self -> zBV
open Nat renaming le_refl -> zAl, ne_of_lt -> zAu, zero_le -> zAA, le_trans -> zAE, lt_of_lt_of_le -> zAJ, le_succ -> zBh, lt_irrefl -> zBl, not_lt_zero -> zBq, ne_of_gt -> zBs, lt_succ_of_lt -> zBx, lt_succ_self -> zBz, lt_trichotomy -> zBF, lt_of_le_of_lt -> zCn
open Bool renaming false_ne_true -> zAm, and_eq_true -> zAv, eq_false_iff -> zBa, not_eq_true' -> zBp, false_and -> zBH, and_false -> zBI, false_eq_true -> zBN
open Array renaming length_toList -> zAC, getElem?_eq_getElem -> zAY, getElem?_toList -> zBj, getElem?_eq_none -> zBQ, getD -> zCc, perm_iff_toList_perm -> zCh
open Option renaming map_eq_some_iff -> zAI, map_some -> zCl
open PySem renaming wpAny_bind -> zCu, wpAny_pure -> zCv, sizeLine_eq -> zCw, bootBuiltins -> zCx, FuncData -> zCy, mainGlobals -> zCz
namespace L2
open PySem PySem.Spec PyProof.Rows
abbrev Et:=Sum Int Str
def Wm:Et->Value->Bool
 | .inl k,v=>Value.isInt k v
 | .inr x,v=>Value.isStrOf x v
def PR (w:World):Et->Int
 | .inl k=>hashInt k
 | .inr x=>hashStr w x
theorem Dh:∀ {k:Et} {v:Value},Wm k v=true->(∃ i t,k=Sum.inl i/\v=Value.int i t)\/(∃ x t,k=Sum.inr x/\v=Value.str x t)
 | .inl i,v,h=>by
  obtain⟨t,e⟩:=Value.isInt_shape (k:=i) (v:=v) h;exact .inl ⟨i,t,rfl,e⟩
 | .inr x,v,h=>by
  obtain⟨t,e⟩:=Value.isStrOf_shape (x:=x) (v:=v) h;exact .inr ⟨x,t,rfl,e⟩
theorem Z2 (i:Int) (t:Tok):Wm (.inl i) (.int i t)=true:=by simp [Wm,Value.isInt]
theorem AR (x:Str) (t:Tok):Wm (.inr x) (.str x t)=true:=by simp [Wm,Value.isStrOf]
theorem JX (a b:Int):decide ((Sum.inl a:Et)=Sum.inl b)=(a==b):=by
 by_cases e:a=b
 ·subst e; simp
 ·have h:¬ (Sum.inl a:Et)=Sum.inl b:=fun q=>e (Sum.inl.inj q)
  rw[decide_eq_false h];exact (beq_eq_false_iff_ne.mpr e).symm
theorem JM (a b:Str):decide ((Sum.inr a:Et)=Sum.inr b)=decide (a=b):=by
 by_cases e:a=b
 ·subst e; simp
 ·have h:¬ (Sum.inr a:Et)=Sum.inr b:=fun q=>e (Sum.inr.inj q)
  rw[decide_eq_false h,decide_eq_false e]
theorem IZ (a:Int) (b:Str):decide ((Sum.inl a:Et)=Sum.inr b)=false:=decide_eq_false (fun q=>nomatch q)
theorem KE (a:Str) (b:Int):decide ((Sum.inr a:Et)=Sum.inl b)=false:=decide_eq_false (fun q=>nomatch q)
def Dl (prog:Program) (w:World):PySem.KeyKind prog w Et where
 is:=Wm
 hash:=PR w
 inj:=fun v a b ha hb=>by
  rcases Dh ha with ⟨i,t,rfl,rfl⟩ | ⟨x,t,rfl,rfl⟩
  ·rcases Dh hb with ⟨j,u,rfl,e⟩ | ⟨y,u,rfl,e⟩
   ·injection e with e1 _; rw[e1]
   ·exact nomatch e
  ·rcases Dh hb with ⟨j,u,rfl,e⟩ | ⟨y,u,rfl,e⟩
   ·exact nomatch e
   ·injection e with e1 _; rw[e1]
 byValue:=fun k v h=>by
  rcases Dh h with ⟨i,t,rfl,rfl⟩ | ⟨x,t,rfl,rfl⟩ <;> rfl
 pyHash:=fun hv h=>by
  rcases Dh hv with ⟨i,t,rfl,rfl⟩ | ⟨x,t,rfl,rfl⟩
  ·exact wpAny_pyHash_int h
  ·exact wpAny_pyHash_str h
 eqBool:=fun hu hv h=>by
  rcases Dh hu with ⟨i,t,rfl,rfl⟩ | ⟨x,t,rfl,rfl⟩
  ·rcases Dh hv with ⟨j,u,rfl,rfl⟩ | ⟨y,u,rfl,rfl⟩
   ·rw[JX] at h; exact wpAny_eqBool_int h
   ·rw[IZ] at h; exact SeqAt.EqAt.int_str i t y u _ _ _ _ h
  ·rcases Dh hv with ⟨j,u,rfl,rfl⟩ | ⟨y,u,rfl,rfl⟩
   ·rw[KE] at h; exact SeqAt.EqAt.str_int x t j u _ _ _ _ h
   ·rw[JM] at h; exact wpAny_eqBool_str h
 «strs» := fun k x t v h=>by
  rcases Dh h with ⟨i,u,rfl,e⟩ | ⟨y,u,rfl,e⟩
  ·exact nomatch e
  ·injection e with e1 _
   subst e1;cases v <;> rfl
theorem F6 (prog:Program) (w:World) (i:Int) (t:Tok):(Dl prog w).is (.inl i) (.int i t)=true:=Z2 i t
theorem F1 (prog:Program) (w:World) (x:Str) (t:Tok):(Dl prog w).is (.inr x) (.str x t)=true:=AR x t
inductive V where
 | non | bl (b:Bool) | int (i:Int) | str (x:Str) | byt (b:Array UInt8) | flt (b:UInt64) | ref (a:Addr) | ty (n:String)
 deriving DecidableEq
def RelV:V->Value->Prop
 | .non,u=>u=Value.none
 | .bl b,u=>u=Value.bool b
 | .int i,u=>∃ t,u=Value.int i t
 | .str x,u=>∃ t,u=Value.str x t
 | .byt b,u=>∃ t,u=Value.bytes b t
 | .flt b,u=>∃ t,u=Value.float b t
 | .ref a,u=>u=Value.ref a
 | .ty n,u=>u=Value.type n
abbrev Vals:List V->List Value->Prop:=Paired RelV
theorem Vals.length {xs:List V} {us:List Value} (r:Vals xs us):xs.length=us.length:=Paired.length r
theorem Vals.get:∀ {xs:List V} {us:List Value} {i:Nat} {x:V},Vals xs us->xs[i]?=some x->∃ u,us[i]?=some u/\RelV x u
 | _,_,_,_,.nil,e=>by simp at e
 | _,_,0,_,.cons r _,e=>by simp at e; subst e; exact⟨_,rfl,r⟩
 | _,_,i+1,x,.cons _ t,e=>by
  obtain⟨u,h1,h2⟩:=Vals.get (i:=i) (x:=x) t (by simpa using e);exact⟨u,by simpa using h1,h2⟩
theorem Vals.set {x:V} {u:Value} (r:RelV x u):∀ {xs:List V} {us:List Value} (i:Nat),Vals xs us->Vals (xs.set i x) (us.set i u)
 | _,_,_,.nil=>.nil
 | _,_,0,.cons _ t=>.cons r t
 | _,_,i+1,.cons q t=>.cons q (Vals.set r i t)
theorem Vals.append:∀ {xs ys:List V} {us ws:List Value},Vals xs us->Vals ys ws->Vals (xs++ys) (us++ws)
 | _,_,_,_,.nil,s=>s
 | _,_,_,_,.cons r t,s=>.cons r (Vals.append t s)
theorem Vals.take:∀ {xs:List V} {us:List Value} (n:Nat),Vals xs us->Vals (xs.take n) (us.take n)
 | _,_,0,_=>.nil
 | _,_,_+1,.nil=>.nil
 | _,_,n+1,.cons r t=>.cons r (Vals.take n t)
theorem Vals.drop:∀ {xs:List V} {us:List Value} (n:Nat),Vals xs us->Vals (xs.drop n) (us.drop n)
 | _,_,0,r=>r
 | _,_,_+1,.nil=>.nil
 | _,_,n+1,.cons _ t=>Vals.drop n t
def RelO:Option V->Option Value->Prop
 | some v,some u=>RelV v u
 | none,none=>True
 | _,_=>False
def KV {κ:Type}:List (κ×V)->List (κ×Value)->Prop:=Paired fun (p:κ×V) (q:κ×Value)=>p.1=q.1/\RelV p.2 q.2
def kV:Et->V
 | .inl i=>.int i
 | .inr x=>.str x
inductive HO where
 | lst (xs:List V)
 | tup (xs:List V)
 | dK (kvs:List (Et×V)) | dT (kvs:List (List Et×V))
 | set (S:Int->Bool) (n:Nat)
 | ins (C dx:Addr) (fs:List (Str×V))
 | own (x:Addr)
 | xd (fs:List (Str×V))
 | met (f x:Addr)
 | rng (lo hi:Int)
 | frz (o:Obj) (u:HO)
 | tbl (ps:Array Value)
 | ext (φ:Heap->Prop)
abbrev Hp:=Addr->Option HO
def upd (H:Hp) (a:Addr) (o:HO):Hp:=fun b=>if b=a then some o else H b
theorem Ac {H:Hp} {a:Addr} {o:HO}:upd H a o a=some o:=by unfold upd; rw[if_pos rfl]
theorem Aw {H:Hp} {a b:Addr} {o:HO} (h:b≠a):upd H a o b=H b:=by unfold upd; rw[if_neg h]
theorem Eu {H:Hp} {a b:Addr} {o u:HO} (h:H a=some o) (h':H b=some u) (d:o≠u):a≠b:=by
 intro e; subst e; rw[h] at h'; exact d (Option.some.inj h')
theorem Aq {H:Hp} {a b:Addr} {o:HO} (h:H a=some o) (h':H b=none):a≠b:=by
 intro e; subst e; rw[h] at h'; cases h'
section
variable (P:Program) (w:World)
def ObjOk (H:Hp) (h:Heap) (a:Addr):HO->Prop
 | .lst xs=>xs.length<=sizeLine/\∃ (its:List Value) (n:Nat),Vals xs its/\h.get? a=some { cls:=.type "list",data:=.seq its.toArray n }
 | .tup xs=>xs.length<=sizeLine/\∃ its:List Value,Vals xs its/\IsTup h a its.toArray
 | .dK kvs=>kvs.length<=sizeLine/\(a==sysModules)=false/\∃ vs,KV kvs vs/\h.DictOf (Dl P w) a vs
 | .dT kvs=>kvs.length<=sizeLine/\(a==sysModules)=false/\∃ xs:List (List Et×Addr×Value),
   Paired (fun (p:List Et×V) (q:List Et×Addr×Value)=>p.1=q.1/\H q.2.1=some (.tup (p.1.map kV))/\RelV p.2 q.2.2) kvs xs /\
   ∃ o es ep,h.get? a=some o/\o.ExactDict/\o.data = .dict es ep/\es.toList=xs.map (entryOfKey (tupleKind (Dl P w)))/\(xs.map (·.1)).Nodup
 | .set S n=>h.SetOf (intKind P w) a S n
 | .ins C dx fs=>H dx=some (.own a)/\fs.length<=1000/\dx≠a/\h.get? a=some (zAZ C dx) /\
   ∃ mA,h.Ns1 dx mA/\(∀ f,RelO (fs.lookup f) (mA f))/\PySem.Within mA (fs.map (·.1))
 | .own _=>∃ o,h.get? a=some o
 | .xd fs=>∃ mA,h.Ns1 a mA/\∀ f,RelO (fs.lookup f) (mA f)
 | .rng lo hi=>∃ t u v,h.get? a=some { cls:=.type "range",data:=.fields #[.int lo t,.int hi u,.int 1 v] }
 | .frz o u=>h.get? a=some o/\ObjOk H h a u
 | .tbl ps=>h.get? a=some { cls:=.none,data:=.fields ps }
 | .met f x=>h.get? a=some (PySem.W.methodObj (.ref f) (.ref x))
 | .ext φ=>φ h/\(∃ o,h.get? a=some o)/\∀ h1 h2:Heap,φ h1->(∀ o,h1.get? a=some o->h2.get? a=some o)->φ h2
def HOk (H:Hp) (h:Heap):Prop:=∀ a o,H a=some o->ObjOk P w H h a o
end
section
variable {P:Program} {w:World} {H H':Hp} {h h':Heap} {a:Addr} {o:HO}
theorem ObjOk.lt (x:ObjOk P w H h a o):a<h.objs.size:=by
 cases o with
 | lst xs=>obtain⟨_,_,_,_,e⟩:=x; exact zAq e
 | tup xs=>obtain⟨_,_,_,p⟩:=x; exact p.lt
 | dK kvs=>obtain⟨_,_,_,_,o,_,_,e,_⟩:=x; exact zAq e
 | dT kvs=>obtain⟨_,_,_,_,o,_,_,e,_⟩:=x; exact zAq e
 | set S n=>obtain⟨o,_,_,_,e,_⟩:=x; exact zAq e
 | ins C dx fs=>obtain⟨_,_,_,e,_⟩:=x; exact zAq e
 | own y=>obtain⟨_,e⟩:=x; exact zAq e
 | xd fs=>obtain⟨_,⟨_,_,_,e,_⟩,_⟩:=x; exact zAq e
 | rng lo hi=>obtain⟨_,_,_,e⟩:=x; exact zAq e
 | frz ob u=>obtain⟨e,_⟩:=x; exact zAq e
 | tbl ps=>exact zAq (show h.get? a=some _ from x)
 | met f y=>exact zAq (show h.get? a=some _ from x)
 | ext φ=>obtain⟨_,⟨_,e⟩,_⟩:=x; exact zAq e
theorem Paired.mapP {α β:Type} {F G:α->β->Prop}:∀ {l₁ : List α} {l₂ : List β},Paired F l₁ l₂ -> (∀ a b,F a b->G a b)->Paired G l₁ l₂
 | _,_,.nil,_=>.nil
 | _,_,.cons r t,f=>.cons (f _ _ r) (Paired.mapP t f)
theorem ObjOk.stay (x:ObjOk P w H h a o) (k:∀ b u,(b=a\/H b=some (.own a))->h.get? b=some u->h'.get? b=some u)
  (ho:∀ b,H b=some (.own a)->H' b=some (.own a)) (ht:∀ b xs,H b=some (.tup xs)->H' b=some (.tup xs)):ObjOk P w H' h' a o:=by
 induction o with
 | lst xs=>obtain⟨z,its,n,r,e⟩:=x; exact⟨z,its,n,r,k _ _ (.inl rfl) e⟩
 | tup xs=>obtain⟨z,its,r,ob,e,c⟩:=x; exact⟨z,its,r,ob,k _ _ (.inl rfl) e,c⟩
 | dK kvs=>obtain⟨z,y,vs,r,ob,es,ep,e,c⟩:=x; exact⟨z,y,vs,r,ob,es,ep,k _ _ (.inl rfl) e,c⟩
 | dT kvs=>
  obtain⟨z,y,xs,r,ob,es,ep,e,c⟩:=x;exact⟨z,y,xs,Paired.mapP r fun p q z=>⟨z.1,ht _ _ z.2.1,z.2.2⟩,ob,es,ep,k _ _ (.inl rfl) e,c⟩
 | set S n=>obtain⟨ob,es,ep,t,e,c⟩:=x; exact⟨ob,es,ep,t,k _ _ (.inl rfl) e,c⟩
 | ins C dx fs=>
  obtain⟨d,z,ne,e,mA,⟨od,es,ep,e2,c⟩,r⟩:=x;exact⟨ho _ d,z,ne,k _ _ (.inl rfl) e,mA,⟨od,es,ep,k _ _ (.inr d) e2,c⟩,r⟩
 | own y=>obtain⟨ob,e⟩:=x; exact⟨ob,k _ _ (.inl rfl) e⟩
 | xd fs=>obtain⟨mA,⟨od,es,ep,e,c⟩,r⟩:=x; exact⟨mA,⟨od,es,ep,k _ _ (.inl rfl) e,c⟩,r⟩
 | rng lo hi=>obtain⟨t,u,v,e⟩:=x; exact⟨t,u,v,k _ _ (.inl rfl) e⟩
 | frz ob u ih=>obtain⟨e,q⟩:=x; exact⟨k _ _ (.inl rfl) e,ih q⟩
 | tbl ps=>
  have e:h.get? a=some { cls:=.none,data:=.fields ps }:=x;show h'.get? a=some { cls:=.none,data:=.fields ps };exact k a _ (.inl rfl) e
 | met f y=>
  have e:h.get? a=some (PySem.W.methodObj (.ref f) (.ref y)):=x;show h'.get? a=some (PySem.W.methodObj (.ref f) (.ref y));exact k a _ (.inl rfl) e
 | ext φ=>obtain⟨p,⟨o,e⟩,st⟩:=x; exact⟨st _ _ p fun o q=>k _ _ (.inl rfl) q,⟨o,k _ _ (.inl rfl) e⟩,st⟩
theorem HOk.lt (x:HOk P w H h) (e:H a=some o):a<h.objs.size:=(x a o e).lt
theorem HOk.fresh (x:HOk P w H h) (e:h.objs.size<=a):H a=none:=by
 cases q:H a with
 | none=>rfl
 | some u=>exact absurd (zAJ (x.lt q) e) (zBl _)
theorem HOk.kept (x:HOk P w H h) (k:∀ b u,h.get? b=some u->h'.get? b=some u):HOk P w H h':=fun a o e=>
 (x a o e).stay (fun b u _ q=>k b u q) (fun _ q=>q) fun _ _ q=>q
theorem HOk.laid (x:HOk P w H h) (k:∀ b u,h.get? b=some u->h'.get? b=some u) (hp:h.objs.size<=a) (new:ObjOk P w (upd H a o) h' a o):HOk P w (upd H a o) h':=fun b u e=>by
 have hn:=x.fresh hp;by_cases hb:b=a
 ·subst hb; rw[Ac] at e; cases e; exact new
 ·rw[Aw hb] at e
  exact (x b u e).stay (fun c v _ q=>k c v q) (fun c q=>by rw[Aw (Aq q hn)]; exact q) fun c xs q=>by rw[Aw (Aq q hn)]; exact q
end
def Rd (H:Hp) (a:Addr) (u:HO):Prop:=H a=some u\/∃ o,H a=some (.frz o u)
theorem Rd.ok {P:Program} {w:World} {H:Hp} {h:Heap} {a:Addr} {u:HO} (r:Rd H a u) (x:HOk P w H h):ObjOk P w H h a u:=by
 rcases r with r | ⟨o,r⟩
 ·exact x a u r
 ·obtain⟨_,q⟩:=x a _ r
  exact q
def NO:Option HO->Prop
 | some (.lst _)=>True
 | some (.dK _)=>True
 | some (.dT _)=>True
 | some (.set _ _)=>True
 | some (.ins _ _ _)=>True
 | some (.ext _)=>True
 | _=>False
section
variable {P:Program} {w:World} {H:Hp} {h h':Heap} {x e:Addr} {o':HO}
theorem HOk.write (ok:HOk P w H h) (mu:NO (H x)) (he:e=x\/H e=some (.own x)) (k:∀ b u,b≠e->h.get? b=some u->h'.get? b=some u) (heo:∃ u,h'.get? e=some u)
  (new:ObjOk P w (upd H x o') h' x o'):HOk P w (upd H x o') h':=fun b u q=>by
 have nown:∀ c y,H c=some (.own y)->c≠x:=fun c y r z=>by subst z; rw[r] at mu; exact mu
 have ntup:∀ c xs,H c=some (.tup xs)->c≠x:=fun c xs r z=>by subst z; rw[r] at mu; exact mu
 by_cases hb:b=x
 ·subst hb; rw[Ac] at q; cases q; exact new
 ·rw[Aw hb] at q
  by_cases hbe:b=e
  ·have q':H b=some (.own x):=by
    rcases he with z | z
    ·exact absurd (hbe.trans z) hb
    ·rw[hbe]; exact z
   rw[q] at q'; cases q';obtain⟨v,hv⟩:=heo;exact⟨v,by rw[hbe]; exact hv⟩
  ·refine (ok b u q).stay (fun c v hc r=>k c v ?_ r) (fun c r=>by rw[Aw (nown c b r)]; exact r) fun c xs r=>by rw[Aw (ntup c xs r)]; exact r
   rcases hc with rfl | hc
   ·exact hbe
   ·rintro rfl
    rcases he with z | z
    ·exact nown c b hc z
    ·rw[hc] at z; cases z; exact hb rfl
end
structure Un (fs ex:List Addr) (H H':Hp) (h h':Heap):Prop where
 keep:∀ b o,h.get? b=some o->H b=none->b∉fs->b∉ex->h'.get? b=some o
 slot:∀ b o,h.get? b=some o->H b=none->b∈fs->b∉ex->∃ sl,h'.get? b=some { o with slots:=sl }
 free:∀ b o,h.get? b=some o->H b=none->b∉ex->H' b=none
 there:∀ b o,h.get? b=some o->b∉ex->∃ o',h'.get? b=some o'
 tups:∀ b xs,H b=some (.tup xs)->H' b=some (.tup xs)
 frzs:∀ b o u,H b=some (.frz o u)->H' b=some (.frz o u)
 tbls:∀ b ps,H b=some (.tbl ps)->∃ more,H' b=some (.tbl (ps++more))
section
variable {fs fs' ex ex':List Addr} {H H1 H2:Hp} {h h1 h2 h':Heap} {a x e:Addr} {o:HO}
theorem Un.any (u:Un fs ex H H1 h h1) {b:Addr} {ob:Obj} (q:h.get? b=some ob) (n:H b=none) (hx:b∉ex):∃ sl,h1.get? b=some { ob with slots:=sl }:=by
 by_cases hb:b∈fs
 ·exact u.slot b ob q n hb hx
 ·exact⟨ob.slots,u.keep b ob q n hb hx⟩
theorem Un.kept (k:∀ b u,h.get? b=some u->h'.get? b=some u):Un fs ex H H h h':=
 ⟨fun b ob q _ _ _=>k b ob q,fun b ob q _ _ _=>⟨ob.slots,k b ob q⟩,fun _ _ _ n _=>n,fun b ob q _=>⟨ob,k b ob q⟩,fun _ _ q=>q,fun _ _ _ q=>q,fun _ ps q=>⟨#[],by rw[q]; simp⟩⟩
theorem Un.refl:Un fs ex H H h h:=Un.kept fun _ _ q=>q
theorem Un.laid (k:∀ b u,h.get? b=some u->h'.get? b=some u) (hp:h.objs.size<=a) (hn:H a=none):Un fs ex H (upd H a o) h h' where
 keep:=fun b u q _ _ _=>k b u q
 slot:=fun b u q _ _ _=>⟨u.slots,k b u q⟩
 free:=fun b u q n _=>by rw[Aw (zAu (zAJ (zAq q) hp))]; exact n
 there:=fun b u q _=>⟨u,k b u q⟩
 tups:=fun b xs q=>by rw[Aw (Aq q hn)]; exact q
 frzs:=fun b u xs q=>by rw[Aw (Aq q hn)]; exact q
 tbls:=fun b ps q=>⟨#[],by rw[Aw (Aq q hn),q]; simp⟩
theorem Un.write (mu:NO (H x)) (he:e=x\/H e=some (.own x)) (k:∀ b u,b≠e->h.get? b=some u->h'.get? b=some u) (heo:∃ u,h'.get? e=some u):Un fs ex H (upd H x o) h h':=by
 have hx:∀ b,H b=none->b≠x:=fun b n z=>by subst z; rw[n] at mu; exact mu
 have hb:∀ b,H b=none->b≠e:=fun b n z=>by
  subst z;rcases he with r | r
  ·exact hx b n r
  ·rw[n] at r; cases r
 have hm:∀ b u,H b=some u->¬ NO (some u)->b≠x:=fun b u q nm z=>by subst z; rw[q] at mu; exact nm mu
 refine⟨fun b u q n _ _=>k b u (hb b n) q,fun b u q n _ _=>⟨u.slots,k b u (hb b n) q⟩,fun b u q n _=>by rw[Aw (hx b n)]; exact n,fun b u q _=>?_,
  fun b xs q=>by rw[Aw (hm b _ q fun z=>z)]; exact q,fun b u xs q=>by rw[Aw (hm b _ q fun z=>z)]; exact q,fun b ps q=>⟨#[],by rw[Aw (hm b _ q fun z=>z),q]; simp⟩⟩
 by_cases hbe:b=e
 ·subst hbe; exact heo
 ·exact⟨u,k b u hbe q⟩
end
def NT (h:Heap) (H:Hp):List Addr:=(zAL h.objs.size).filter fun a=>(H a).isSome
def Zb (h:Heap) (H:Hp):Heap:=PySem.W.hideAll h (NT h H)
theorem Z9 (h:Heap) (H:Hp):(Zb h H).objs.size=h.objs.size:=PySem.W.hideAll_size _ _
theorem DO {h:Heap} {H:Hp} {b:Addr} {o:Obj} (e:h.get? b=some o) (n:H b=none):(Zb h H).get? b=some o:=
 PySem.W.hideAll_get _ e fun hm=>by
  have q:(H b).isSome=true:=(zAT.mp hm).2;rw[n] at q; simp at q
theorem HH {h:Heap} {H:Hp} {b:Addr} {o:Obj} (e:(Zb h H).get? b=some o):h.get? b=some o/\H b=none:=by
 have e':h.get? b=some o:=PySem.W.of_hideAll (NT h H) e;refine⟨e',?_⟩;cases q:H b with
 | none=>rfl
 | some x=>
  have hm:b∈NT h H:=zAT.mpr ⟨zBu.mpr (zAq e'),by simp [q]⟩;have z:(Zb h H).get? b=none:=PySem.W.hideAll_none (NT h H) hm;rw[z] at e; cases e
structure Mod (K:zAa) (mg:Str->Option Value) (base:Heap):Prop where
 kin:K.In base
 glob:base.Ns zCz mg
 blt:∃ mb,base.Ns builtinsNs mb/\∀ x:Str,x ≠ "__name__" -> mb x=zCx x
 nolimit:base.NoLimit
/-- the context: a def's body (or a comprehension's block) running. base: fixed through the whole law; s₀,H₀: the entry; outer: the frames whose slots others may change (a def's callers); stack: all frames that run;
   ex: iterators that were made ahead of the entry and are walked here (a comprehension's); fn: the names whose cells were made at the entry (a def: all; a comprehension's block: its own); calm: not within an except suite; pn: pins that every state bears; xe: what is wanted of an exception that leaves the code -/
structure Cx where
 prog:Program
 w:World
 K:zAa
 mg:Str->Option Value
 base:Heap
 A:Around
 N:List Str
 s₀ : Shared
 H₀ : Hp
 env:Env
 outer:List Env
 stack:List Env
 ex:List Addr
 fn:Str->Bool
 calm:Bool
 pn:List (Addr×Obj)
 xe:Value->Shared->Prop
def AD (l:List Env):List Addr:=l.filterMap (·.frame)
abbrev Cx.fs (X:Cx):List Addr:=AD X.outer
def PB (sc:Scope) (x:Str):Prop:=sc.names.lookup x=some .local\/sc.names.lookup x=some .cell\/sc.names.lookup x=some .free
def NU (sc:Scope) (x:Str):Prop:=sc.names.lookup x=some .local\/sc.names.lookup x=some .cell
def PQ (env:Env) (h:Heap) (m:Str->Option Value) (x:Str) (u:Value):Prop:=
 (env.kindOf x=some .local/\m x=some u)\/((env.kindOf x=some .cell\/env.kindOf x=some .free)/\∃ c,env.cells.lookup x=some c/\h.IsCell c (some u))
structure Cx.Ok (X:Cx):Prop where
 mod:Mod X.K X.mg X.base
 kind:X.env.scope.kind = .function
 glob:X.env.globals=zCz
 blt:X.env.builtins=builtinsNs
 above:X.s₀.heap.objs.size<=X.env.locals
 inj:∀ x y c,X.env.cells.lookup x=some c->X.env.cells.lookup y=some c->x=y
 has:∀ x,(X.env.kindOf x=some .cell\/X.env.kindOf x=some .free)->∃ c,X.env.cells.lookup x=some c
 cab:∀ x c,X.fn x=true->X.env.cells.lookup x=some c->X.s₀.heap.objs.size<=c
 hd:X.calm=true->X.A.handled=none
 frames:X.A.frames=some X.stack
 stk:X.stack=X.outer\/(X.stack=X.env::X.outer/\X.env.frame=some X.env.locals)
 exf:∀ b∈X.ex,b≠X.env.locals/\∀ x c,X.env.cells.lookup x=some c->c≠b
 bs:∀ b o,X.base.get? b=some o->X.s₀.heap.get? b=some o/\X.H₀ b=none
 bsz:X.base.objs.size<=X.s₀.heap.objs.size
 noex:∀ b o,X.base.get? b=some o->b∉X.ex
 exfs:∀ b∈X.ex,b∉X.fs
 funs:X.s₀.heap.FunFrames X.base X.outer
 frf:∀ b∈X.fs,X.H₀ b=none
structure Inv (X:Cx) (pins:List (Addr×Obj)) (σ:List (Option V)) (H:Hp) (s:Shared):Prop where
 ok:X.Ok
 os:s.os=X.s₀.os
 bare:AllBare s.gens
 base:Un X.fs X.ex X.H₀ H X.s₀.heap s.heap
 loc:∃ m,s.heap.Ns X.env.locals m/\∀ (i:Nat) (x:Str) (v:V),X.N[i]?=some x->σ[i]?=some (some v)->PB X.env.scope x->∃ u,RelV v u/\PQ X.env s.heap m x u
 cell:∀ x c,X.env.cells.lookup x=some c->∃ v,s.heap.IsCell c v
 free:H X.env.locals=none
 freeC:∀ x c,X.env.cells.lookup x=some c->H c=none
 pin:∀ p∈X.pn++pins,s.heap.get? p.1=some p.2/\H p.1=none/\p.1≠X.env.locals/\p.1∉X.fs/\∀ v,p.2.data ≠ .cell v
 hok:HOk X.prog X.w H s.heap
 len:σ.length=X.N.length
section
variable {X:Cx} {pins:List (Addr×Obj)} {σ:List (Option V)} {H H':Hp} {s:Shared} {h':Heap}
theorem Cx.Ok.nofr (ok:X.Ok) {b:Addr} {o:Obj} (e:X.base.get? b=some o):b∉X.fs:=fun hb=>by
 have:=(ok.funs.mem hb).1;rw[e] at this; cases this
theorem Inv.bs (I:Inv X pins σ H s):∀ b o,X.base.get? b=some o->s.heap.get? b=some o/\H b=none:=fun b o e=>
 ⟨I.base.keep b o (I.ok.bs b o e).1 (I.ok.bs b o e).2 (I.ok.nofr e) (I.ok.noex b o e),I.base.free b o (I.ok.bs b o e).1 (I.ok.bs b o e).2 (I.ok.noex b o e)⟩
theorem Inv.bk (I:Inv X pins σ H s):∀ b o,X.base.get? b=some o->s.heap.get? b=some o:=fun b o e=>(I.bs b o e).1
theorem Inv.mod (I:Inv X pins σ H s):Mod X.K X.mg X.base:=I.ok.mod
theorem Inv.kIn (I:Inv X pins σ H s):X.K.In s.heap:=I.ok.mod.kin.keeps I.bk
theorem Inv.lt (I:Inv X pins σ H s):X.env.locals<s.heap.objs.size:=let ⟨_,hn,_⟩:=I.loc; hn.lt
theorem Inv.sz (I:Inv X pins σ H s):X.s₀.heap.objs.size<=s.heap.objs.size:=zAE I.ok.above (Nat.le_of_lt I.lt)
theorem Inv.nofs (I:Inv X pins σ H s) {a:Addr} (h:s.heap.objs.size<=a):a∉X.fs:=fun hb=>by
 obtain⟨_,o,ho,_⟩:=I.ok.funs.mem hb;exact absurd (zAJ (zAq ho) (zAE I.sz h)) (zBl _)
theorem Inv.cne (I:Inv X pins σ H s):∀ x c,X.env.cells.lookup x=some c->c≠X.env.locals:=fun x c e z=>by
 obtain⟨v,o,ho,hd⟩:=I.cell x c e;obtain⟨m,⟨o',es,ep,ho',hd',_⟩,_⟩:=I.loc;rw[z,ho'] at ho; cases ho; rw[hd'] at hd; cases hd
theorem Inv.funs (I:Inv X pins σ H s):s.heap.FunFrames X.base X.outer:=by
 have all:∀ (l:List Env),(∀ b∈AD l,b∈X.fs)->X.s₀.heap.FunFrames X.base l->s.heap.FunFrames X.base l:=by
  intro l
  induction l with
  | nil=>intro _ _; trivial
  | cons env r ih=>
   intro hs hl;obtain⟨hk,⟨L,o,hf,hn,ho,hd⟩,hr⟩:=hl;have hL:L∈X.fs:=hs L (by unfold AD; rw[zCj,hf]; exact zAk);obtain⟨sl,e⟩:=I.base.slot L o ho (I.ok.frf L hL) hL fun z=>I.ok.exfs L z hL;exact⟨hk,⟨L,_,hf,hn,e,hd⟩,ih (fun b hb=>hs b (by unfold AD; rw[zCj,hf]; exact zAd _ hb)) hr⟩
 exact all X.outer (fun _ hb=>hb) I.ok.funs
theorem Inv.stack (I:Inv X pins σ H s):s.heap.FunFrames X.base X.stack:=by
 rcases I.ok.stk with e | ⟨e,hf⟩
 ·rw[e]; exact I.funs
 ·rw[e]
  obtain⟨m,hn,_⟩:=I.loc;refine .cons (by rw[I.ok.kind]; decide) hf hn ?_ I.funs;exact Heap.get?_none_of_le (zAE I.ok.bsz I.ok.above)
theorem Inv.stkSub (I:Inv X pins σ H s):∀ b∈AD X.stack,b∈X.env.locals::X.fs:=fun b hb=>by
 rcases I.ok.stk with e | ⟨e,hf⟩
 ·rw[e] at hb; exact zAd _ hb
 ·rw[e] at hb
  unfold AD at hb;rw[zCj,hf] at hb;exact hb
theorem Inv.stkFree (I:Inv X pins σ H s):∀ b∈AD X.stack,H b=none:=fun b hb=>by
 rcases zAn.mp (I.stkSub b hb) with e | hb
 ·rw[e]; exact I.free
 ·obtain⟨_,o,ho,_⟩:=I.ok.funs.mem hb
  exact I.base.free b o ho (I.ok.frf b hb) fun z=>I.ok.exfs b z hb
theorem Inv.step {g':Array GenState} {t':Nat} {d':Drawn} {ch:List Addr} (I:Inv X pins σ H s)
  (hch:∀ b∈ch,(b∈X.ex\/X.s₀.heap.objs.size<=b)/\b≠X.env.locals/\(∀ x c,X.env.cells.lookup x=some c->c≠b)/\∀ p∈X.pn++pins,p.1≠b)
  (keep:∀ b o,b≠X.env.locals->b∉X.fs->b∉ch->s.heap.get? b=some o->H b=none->h'.get? b=some o)
  (slot:∀ b o,b≠X.env.locals->b∈X.fs->b∉ch->s.heap.get? b=some o->H b=none->∃ sl,h'.get? b=some { o with slots:=sl }) (free:∀ b o,b∉ch->s.heap.get? b=some o->H b=none->H' b=none)
  (there:∀ b o,b∉ch->s.heap.get? b=some o->∃ o',h'.get? b=some o')
  (tups:∀ b xs,H b=some (.tup xs)->H' b=some (.tup xs)) (frzs:∀ b o u,H b=some (.frz o u)->H' b=some (.frz o u)) (tbls:∀ b ps,H b=some (.tbl ps)->∃ more,H' b=some (.tbl (ps++more)))
  (ns:∀ m,s.heap.Ns X.env.locals m->h'.Ns X.env.locals m) (hok:HOk X.prog X.w H' h') (hg:AllBare g') :
  Inv X pins σ H' { s with heap:=h',gens:=g',drawn:=d',toks:=t' }:=by
 have neL:∀ b o,X.s₀.heap.get? b=some o->b≠X.env.locals:=fun b o e=>zAu (zAJ (zAq e) I.ok.above);have neC:∀ b o,X.s₀.heap.get? b=some o->b∉X.ex->b∉ch:=fun b o e hx hb=>by
  rcases (hch b hb).1 with z | z
  ·exact hx z
  ·exact absurd (zAJ (zAq e) z) (zBl _)
 have cellK:∀ x c,X.env.cells.lookup x=some c->∀ v,s.heap.IsCell c v->h'.IsCell c v:=fun x c e v ⟨o,ho,hd⟩=>by
  have nch:c∉ch:=fun z=>(hch c z).2.2.1 x c e rfl;by_cases hc:c∈X.fs
  ·obtain⟨sl,q⟩:=slot c o (I.cne x c e) hc nch ho (I.freeC x c e)
   exact⟨_,q,hd⟩
  ·exact⟨o,keep c o (I.cne x c e) hc nch ho (I.freeC x c e),hd⟩
 refine⟨I.ok,I.os,hg,⟨fun b o e n hb hx=>?_,fun b o e n hb hx=>?_,fun b o e n hx=>?_,fun b o e hx=>?_,fun b xs e=>tups b xs (I.base.tups b xs e),fun b o xs e=>frzs b o xs (I.base.frzs b o xs e),fun b ps e=>?_⟩,?_,fun x c e=>?_,?_,fun x c e=>?_,fun p hp=>?_,hok,I.len⟩
 ·exact keep b o (neL b o e) hb (neC b o e hx) (I.base.keep b o e n hb hx) (I.base.free b o e n hx)
 ·obtain⟨sl,e1⟩:=I.base.slot b o e n hb hx
  obtain⟨sl',e2⟩:=slot b _ (neL b o e) hb (neC b o e hx) e1 (I.base.free b o e n hx);exact⟨sl',e2⟩
 ·obtain⟨o',e1⟩:=I.base.there b o e hx
  exact free b o' (neC b o e hx) e1 (I.base.free b o e n hx)
 ·obtain⟨o',e1⟩:=I.base.there b o e hx
  exact there b o' (neC b o e hx) e1
 ·obtain⟨m1,e1⟩:=I.base.tbls b ps e
  obtain⟨m2,e2⟩:=tbls b _ e1;exact⟨m1++m2,by rw[e2,Array.append_assoc]⟩
 ·obtain⟨m,hn,hl⟩:=I.loc
  refine⟨m,ns m hn,fun i x v e1 e2 e3=>?_⟩;obtain⟨u,r,l⟩:=hl i x v e1 e2 e3;refine⟨u,r,?_⟩;rcases l with l | ⟨k,c,e,z⟩
  ·exact .inl l
  ·exact .inr ⟨k,c,e,cellK x c e _ z⟩
 ·obtain⟨v,z⟩:=I.cell x c e
  exact⟨v,cellK x c e v z⟩
 ·obtain⟨m,⟨o,_,_,ho,_⟩,_⟩:=I.loc
  exact free _ o (fun z=>(hch _ z).2.1 rfl) ho I.free
 ·obtain⟨v,o,ho,hd⟩:=I.cell x c e
  exact free c o (fun z=>(hch c z).2.2.1 x c e rfl) ho (I.freeC x c e)
 ·obtain⟨e,n,ne,nf,d⟩:=I.pin p hp
  have nch:p.1∉ch:=fun z=>(hch p.1 z).2.2.2 p hp rfl;exact⟨keep p.1 p.2 ne nf nch e n,free p.1 p.2 nch e n,ne,nf,d⟩
theorem Inv.un {t':Nat} (I:Inv X pins σ H s) (u:Un X.fs [] H H' s.heap h') (hok:HOk X.prog X.w H' h'):Inv X pins σ H' { s with heap:=h',toks:=t' }:=by
 obtain⟨m,⟨o,es,ep,ho,r⟩,_⟩:=id I.loc;obtain⟨sl,hL⟩:=u.any ho I.free (by simp);exact I.step (g':=s.gens) (d':=s.drawn) (ch:=[]) (fun _ z=>nomatch z) (fun b o _ hb _ e n=>u.keep b o e n hb (by simp)) (fun b o _ hb _ e n=>u.slot b o e n hb (by simp)) (fun b o _ e n=>u.free b o e n (by simp)) (fun b o _ e=>u.there b o e (by simp)) u.tups u.frzs u.tbls (fun m' hm=>by
  obtain⟨o',es',ep',ho',r'⟩:=hm;rw[ho] at ho'; cases ho';exact⟨_,es',ep',hL,r'⟩) hok I.bare
theorem Inv.call {g':Array GenState} {t':Nat} {d':Drawn} {ch:List Addr} (I:Inv X pins σ H s) (u:Un (AD X.stack) ch H H' s.heap h') (hok:HOk X.prog X.w H' h') (hg:AllBare g')
  (hch:∀ b∈ch,(b∈X.ex\/X.s₀.heap.objs.size<=b)/\b≠X.env.locals/\(∀ x c,X.env.cells.lookup x=some c->c≠b)/\∀ p∈X.pn++pins,p.1≠b) :
  Inv X pins σ H' { s with heap:=h',gens:=g',drawn:=d',toks:=t' }:=by
 obtain⟨m,⟨o,es,ep,ho,r⟩,_⟩:=id I.loc;obtain⟨sl,hL⟩:=u.any ho I.free fun z=>(hch _ z).2.1 rfl;exact I.step (ch:=ch) hch (fun b o hL hb hc e n=>u.keep b o e n (fun z=>(zAn.mp (I.stkSub b z)).elim hL hb) hc) (fun b o _ _ hc e n=>u.any e n hc) (fun b o hc e n=>u.free b o e n hc) (fun b o hc e=>u.there b o e hc) u.tups u.frzs u.tbls (fun m' hm=>by
  obtain⟨o',es',ep',ho',r'⟩:=hm;rw[ho] at ho'; cases ho';exact⟨_,es',ep',hL,r'⟩) hok hg
theorem Inv.turned {t':Nat} {it:Addr} (I:Inv X pins σ H s) (k:∀ b o,b≠it->s.heap.get? b=some o->h'.get? b=some o) (hn:H it=none) (hL:it≠X.env.locals)
  (h1:it∈X.ex\/X.s₀.heap.objs.size<=it) (h2:∀ x c,X.env.cells.lookup x=some c->c≠it) (h3:∀ p∈X.pn++pins,p.1≠it):Inv X pins σ H { s with heap:=h',toks:=t' }:=by
 have nit:∀ b u,H b=some u->b≠it:=fun b u e z=>by rw[z,hn] at e; cases e
 refine I.step (g':=s.gens) (d':=s.drawn) (ch:=[it]) (fun b hb=>?_) (fun b o _ _ hc e _=>k b o (fun z=>hc (by simp [z])) e) (fun b o _ _ hc e _=>⟨o.slots,k b o (fun z=>hc (by simp [z])) e⟩) (fun _ _ _ _ n=>n)
  (fun b o hc e=>⟨o,k b o (fun z=>hc (by simp [z])) e⟩) (fun _ _ e=>e) (fun _ _ _ e=>e) (fun b ps e=>⟨#[],by rw[e]; simp⟩) (fun m hm=>?_) (fun b u e=>?_) I.bare
 ·have e:b=it:=by simpa using hb
  subst e;exact⟨h1,hL,h2,h3⟩
 ·obtain⟨o,es,ep,ho,r⟩:=hm
  exact⟨o,es,ep,k _ o (Ne.symm hL) ho,r⟩
 ·refine (I.hok b u e).stay (fun c v hc q=>k c v ?_ q) (fun _ q=>q) fun _ _ q=>q
  rcases hc with z | z
  ·rw[z]; exact nit b u e
  ·exact nit c _ z
theorem Inv.tok (I:Inv X pins σ H s) (t:Nat):Inv X pins σ H { s with toks:=t }:=I.un (h':=s.heap) (t':=t) Un.refl I.hok
theorem Inv.kept {t':Nat} (I:Inv X pins σ H s) (k:∀ b u,s.heap.get? b=some u->h'.get? b=some u):Inv X pins σ H { s with heap:=h',toks:=t' }:=I.un (Un.kept k) (I.hok.kept k)
theorem Inv.laid {a:Addr} {o:HO} {t':Nat} (I:Inv X pins σ H s) (k:∀ b u,s.heap.get? b=some u->h'.get? b=some u) (hp:s.heap.objs.size<=a) (new:ObjOk X.prog X.w (upd H a o) h' a o) :
  Inv X pins σ (upd H a o) { s with heap:=h',toks:=t' }:=I.un (Un.laid k hp (I.hok.fresh hp)) (I.hok.laid k hp new)
theorem Inv.write {x e:Addr} {o:HO} {t':Nat} (I:Inv X pins σ H s) (mu:NO (H x)) (he:e=x\/H e=some (.own x)) (k:∀ b u,b≠e->s.heap.get? b=some u->h'.get? b=some u) (heo:∃ u,h'.get? e=some u)
  (new:ObjOk X.prog X.w (upd H x o) h' x o):Inv X pins σ (upd H x o) { s with heap:=h',toks:=t' }:=I.un (Un.write mu he k heo) (I.hok.write mu he k heo new)
theorem Inv.pins_of {pins':List (Addr×Obj)} (I:Inv X pins σ H s) (h:∀ p∈pins',s.heap.get? p.1=some p.2/\H p.1=none/\p.1≠X.env.locals/\p.1∉X.fs/\∀ v,p.2.data ≠ .cell v):Inv X pins' σ H s:=
 ⟨I.ok,I.os,I.bare,I.base,I.loc,I.cell,I.free,I.freeC,fun p hp=>(zAz.mp hp).elim (fun z=>I.pin p (zBY _ z)) (h p),I.hok,I.len⟩
theorem C5 {N:List Str} (hN:N.Nodup) {i j:Nat} {x:Str} (a:N[i]?=some x) (b:N[j]?=some x):i=j:=by
 obtain⟨h1,e1⟩:=zAj.mp a;obtain⟨h2,e2⟩:=zAj.mp b;exact (List.getElem_inj hN).mp (e1.trans e2.symm)
theorem Wt {M:Model} {A:Around} {E:Value->Shared->Prop} {i:Nat} {x:Str} {v:V} {u:Value} {Q:Unit->Shared->Prop} (I:Inv X pins σ H s) (hN:X.N.Nodup) (hi:X.N[i]?=some x) (hx:NU X.env.scope x) (r:RelV v u)
  (h:∀ s',Inv X pins (σ.set i (some v)) H s'->(∃ a,zBg a s.heap s'.heap/\(a=X.env.locals\/X.env.cells.lookup x=some a))->Q () s') (hf:X.fn x=true\/X.env.scope.names.lookup x=some .local:=by first | exact .inl rfl | exact .inr rfl | assumption):wpAny M A (storeName X.env x u) Q E s:=by
 obtain⟨m,hn,hl⟩:=id I.loc;have hcls:(X.env.scope.kind == .class||(X.env.scope.kind == .module&&X.env.locals != X.env.globals))=false:=by rw[I.ok.kind]; rfl
 have hiσ:i<σ.length:=by rw[I.len]; exact (zAj.mp hi).1
 have cne:=I.cne;have tracked:∀ {a:Addr} {h':Heap},(∃ o,s.heap.get? a=some o/\H a=none)->zBg a s.heap h'->HOk X.prog X.w H h':=fun {a h'} ha hs b ob e=>by
  obtain⟨_,_,hfree⟩:=ha;refine (I.hok b ob e).stay (fun c w' hc q=>(hs.2 c ?_).trans q) (fun _ q=>q) fun _ _ q=>q;rintro rfl;rcases hc with rfl | hc
  ·rw[hfree] at e; cases e
  ·rw[hfree] at hc; cases hc
 rcases hx with hk | hk
 ·refine wpAny_storeName_local hk hn (fun h' hn' hs=>?_) hcls
  obtain⟨oL,_,_,hoL,_⟩:=id hn;refine h _ ⟨I.ok,I.os,I.bare,⟨fun b o e n hb hx=>?_,fun b o e n hb hx=>?_,I.base.free,fun b o e hx=>?_,I.base.tups,I.base.frzs,I.base.tbls⟩,⟨_,hn',fun j y v' e1 e2 e3=>?_⟩,fun y c e=>?_,I.free,I.freeC,fun p hp=>?_,tracked ⟨oL,hoL,I.free⟩ hs,by simpa using I.len⟩ ⟨_,hs,.inl rfl⟩
  ·exact (hs.2 b (zAu (zAJ (zAq e) I.ok.above))).trans (I.base.keep b o e n hb hx)
  ·obtain⟨sl,e1⟩:=I.base.slot b o e n hb hx
   exact⟨sl,(hs.2 b (zAu (zAJ (zAq e) I.ok.above))).trans e1⟩
  ·obtain⟨o',e1⟩:=I.base.there b o e hx
   exact⟨o',(hs.2 b (zAu (zAJ (zAq e) I.ok.above))).trans e1⟩
  ·by_cases hj:j=i
   ·subst hj
    rw[hi] at e1; cases e1;rw[List.getElem?_set_self hiσ] at e2;cases e2;exact⟨u,r,.inl ⟨hk,by simp⟩⟩
   ·rw[List.getElem?_set_ne (Ne.symm hj)] at e2
    obtain⟨u',r',q⟩:=hl j y v' e1 e2 e3;refine⟨u',r',?_⟩;rcases q with ⟨k,e⟩ | ⟨k,c,e,z⟩
    ·refine .inl ⟨k,?_⟩
     have:y≠x:=fun e=>hj (C5 hN e1 (e▸hi));simp [this,e]
    ·exact .inr ⟨k,c,e,z.sameBut hs (cne y c e)⟩
  ·obtain⟨w',z⟩:=I.cell y c e
   exact⟨w',z.sameBut hs (cne y c e)⟩
  ·obtain⟨e,n,ne,nf,d⟩:=I.pin p hp
   exact⟨(hs.2 p.1 ne).trans e,n,ne,nf,d⟩
 ·have hfn:X.fn x=true:=by
   rcases hf with z | z
   ·exact z
   ·rw[z] at hk; cases hk
  obtain⟨c,hc⟩:=I.ok.has x (.inl hk);obtain⟨w',z⟩:=I.cell x c hc;refine wpAny_storeName_cell I.ok.kind hk hc z (fun h' hc' hs=>?_);obtain⟨oc,hoc,hocd⟩:=id z;refine h { s with heap:=h' } ⟨I.ok,I.os,I.bare,⟨fun b o e n hb hx=>?_,fun b o e n hb hx=>?_,I.base.free,fun b o e hx=>?_,I.base.tups,I.base.frzs,I.base.tbls⟩,⟨m,hn.sameBut hs (Ne.symm (cne x c hc)),fun j y v' e1 e2 e3=>?_⟩,fun y c' e=>?_,I.free,I.freeC,fun p hp=>?_,tracked ⟨oc,hoc,I.freeC x c hc⟩ hs,by simpa using I.len⟩ ⟨c,hs,.inr hc⟩
  ·exact (hs.2 b (zAu (zAJ (zAq e) (I.ok.cab x c hfn hc)))).trans (I.base.keep b o e n hb hx)
  ·obtain⟨sl,e1⟩:=I.base.slot b o e n hb hx
   exact⟨sl,(hs.2 b (zAu (zAJ (zAq e) (I.ok.cab x c hfn hc)))).trans e1⟩
  ·obtain⟨o',e1⟩:=I.base.there b o e hx
   exact⟨o',(hs.2 b (zAu (zAJ (zAq e) (I.ok.cab x c hfn hc)))).trans e1⟩
  ·by_cases hj:j=i
   ·subst hj
    rw[hi] at e1; cases e1;rw[List.getElem?_set_self hiσ] at e2;cases e2;exact⟨u,r,.inr ⟨.inl hk,c,hc,hc'⟩⟩
   ·rw[List.getElem?_set_ne (Ne.symm hj)] at e2
    obtain⟨u',r',q⟩:=hl j y v' e1 e2 e3;refine⟨u',r',?_⟩;rcases q with q | ⟨k,c',e,z'⟩
    ·exact .inl q
    ·refine .inr ⟨k,c',e,z'.sameBut hs ?_⟩
     rintro rfl;exact hj (C5 hN e1 (I.ok.inj _ _ _ e hc▸hi))
  ·by_cases hcc:c'=c
   ·subst hcc; exact⟨_,hc'⟩
   ·obtain⟨w2,z2⟩:=I.cell y c' e
    exact⟨w2,z2.sameBut hs hcc⟩
  ·obtain⟨e,n,ne,nf,d⟩:=I.pin p hp
   refine⟨(hs.2 p.1 ?_).trans e,n,ne,nf,d⟩;intro q;rw[q,hoc] at e;have q':oc=p.2:=Option.some.inj e;exact d w' (by rw[<- q']; exact hocd)
theorem A6 {M:Model} {A:Around} {E:Value->Shared->Prop} {i:Nat} {x:Str} {v:V} {u:Value} {Q:Unit->Shared->Prop} (I:Inv X pins σ H s) (hN:X.N.Nodup) (hi:X.N[i]?=some x) (hx:NU X.env.scope x) (r:RelV v u)
  (h:∀ s',Inv X pins (σ.set i (some v)) H s'->Q () s') (hf:X.fn x=true\/X.env.scope.names.lookup x=some .local:=by first | exact .inl rfl | exact .inr rfl | assumption):wpAny M A (storeName X.env x u) Q E s:=
 Wt I hN hi hx r (fun s' I' _=>h s' I') hf
theorem Inv.call' {s':Shared} {ch:List Addr} (I:Inv X pins σ H s) (ho:s'.os=s.os) (u:Un (AD X.stack) ch H H' s.heap s'.heap) (hok:HOk X.prog X.w H' s'.heap) (hg:AllBare s'.gens)
  (hch:∀ b∈ch,(b∈X.ex\/X.s₀.heap.objs.size<=b)/\b≠X.env.locals/\(∀ x c,X.env.cells.lookup x=some c->c≠b)/\∀ p∈X.pn++pins,p.1≠b):Inv X pins σ H' s':=by
 obtain⟨h',g',d',t',o'⟩:=s';have e:o'=s.os:=ho;subst e;exact I.call (g':=g') (t':=t') (d':=d') u hok hg hch
end
abbrev XK:=Value->Option Addr->Hp->Prop
abbrev St:=List (Option V)
abbrev VK:=V->Hp->Prop
abbrev TE:=St->Hp->VK->Prop
abbrev TT:=St->Hp->(Bool->Hp->Prop)->Prop
abbrev TA:=St->Hp->(List V->Hp->Prop)->Prop
structure Qy where
 nx:St->Hp->Prop
 rt:VK
 bk:St->Hp->Prop:=fun _ _=>False
 ct:St->Hp->Prop:=fun _ _=>False
abbrev TS:=Qy->St->Hp->Prop
def EP (X:Cx) (pins:List (Addr×Obj)) (σ:St) (Q:VK) (u:Value) (s':Shared):Prop:=∃ v H',Inv X pins σ H' s'/\RelV v u/\Q v H'
def TP (X:Cx) (pins:List (Addr×Obj)) (σ:St) (Q:Bool->Hp->Prop) (b:Bool) (s':Shared):Prop:=∃ H',Inv X pins σ H' s'/\Q b H'
def AP (X:Cx) (pins:List (Addr×Obj)) (σ:St) (Q:List V->Hp->Prop) (us:List Value) (s':Shared):Prop:=∃ vs H',Inv X pins σ H' s'/\Vals vs us/\Q vs H'
def SP (X:Cx) (pins:List (Addr×Obj)) (D:Qy) (f:Flow) (s':Shared):Prop:=
 match f with
 | .next=>∃ σ' H',Inv X pins σ' H' s'/\D.nx σ' H'
 | .brk=>∃ σ' H',Inv X pins σ' H' s'/\D.bk σ' H'
 | .cont=>∃ σ' H',Inv X pins σ' H' s'/\D.ct σ' H'
 | .ret u=>∃ v σ' H',Inv X pins σ' H' s'/\RelV v u/\D.rt v H'
def PE (X:Cx) (e:Expr) (t:TE):Prop:=
 ∀ (pins:List (Addr×Obj)) (s:Shared) (σ:St) (H:Hp) (Q:VK),Inv X pins σ H s->t σ H Q->wpAny (model X.prog X.w) X.A (eval e X.env) (EP X pins σ Q) X.xe s
def PT (X:Cx) (e:Expr) (t:TT):Prop:=
 ∀ (pins:List (Addr×Obj)) (s:Shared) (σ:St) (H:Hp) (Q:Bool->Hp->Prop),Inv X pins σ H s->t σ H Q->wpAny (model X.prog X.w) X.A (isTrue e X.env (eval e X.env)) (TP X pins σ Q) X.xe s
def PW (X:Cx) (e:Expr) (t:TT):Prop:=
 ∀ (whole:Sem Value) (pins:List (Addr×Obj)) (s:Shared) (σ:St) (H:Hp) (Q:Bool->Hp->Prop),Inv X pins σ H s->t σ H Q->wpAny (model X.prog X.w) X.A (isTrue e X.env whole) (TP X pins σ Q) X.xe s
theorem PW.pt {X:Cx} {e:Expr} {t:TT} (h:PW X e t):PT X e t:=h _
def PA (X:Cx) (es:List Expr) (t:TA):Prop:=
 ∀ (pos:Pos) (pins:List (Addr×Obj)) (s:Shared) (σ:St) (H:Hp) (Q:List V->Hp->Prop),Inv X pins σ H s->t σ H Q->wpAny (model X.prog X.w) X.A (spliced (backTo pos (starEach es X.env))) (AP X pins σ Q) X.xe s
def PS (X:Cx) (st:Stmt) (t:TS):Prop:=
 ∀ (pins:List (Addr×Obj)) (s:Shared) (σ:St) (H:Hp) (D:Qy),Inv X pins σ H s->t D σ H->wpAny (model X.prog X.w) X.A (exec st X.env) (SP X pins D) X.xe s
def PSs (X:Cx) (st:List Stmt) (t:TS):Prop:=
 ∀ (pins:List (Addr×Obj)) (s:Shared) (σ:St) (H:Hp) (D:Qy),Inv X pins σ H s->t D σ H->wpAny (model X.prog X.w) X.A (execs st X.env) (SP X pins D) X.xe s
theorem Db {α:Type} {t:Sem α} {Q Q':α->Shared->Prop} {M:Model} {A:Around} {E:Value->Shared->Prop} {s:Shared} (h:wpAny M A t Q E s) (hQ:∀ a s,Q a s->Q' a s):wpAny M A t Q' E s:=wpAny_mono h hQ fun _ _ x=>x
section
variable {X:Cx}
theorem RC {a b:Expr} {ta tb:TE} (ha:PE X a ta) (hb:PE X b tb) {pins:List (Addr×Obj)} {s:Shared} {σ:St} {H:Hp} {R:V->V->Hp->Prop} (I:Inv X pins σ H s) (h:ta σ H fun x H1=>tb σ H1 fun y H2=>R x y H2)
  {α:Type} {Q:α->Shared->Prop} {f:Value->Value->Sem α}
  (hf:∀ v u s2 x y H2,Inv X pins σ H2 s2->RelV x v->RelV y u->R x y H2->wpAny (model X.prog X.w) X.A (f v u) Q X.xe s2) :
  wpAny (model X.prog X.w) X.A (eval a X.env) (fun v s₁ => wpAny (model X.prog X.w) X.A (eval b X.env) (fun u s₂ => wpAny (model X.prog X.w) X.A (f v u) Q X.xe s₂) X.xe s₁) X.xe s:=by
 refine Db (ha pins s σ H _ I h) fun v s1 ⟨x,H1,I1,r1,q1⟩=>?_;refine Db (hb pins s1 σ H1 _ I1 q1) fun u s2 ⟨y,H2,I2,r2,q2⟩=>?_;exact hf v u s2 x y H2 I2 r1 r2 q2
def NH (i:Nat):TE:=fun σ H Q=>∃ v,σ[i]?=some (some v)/\Q v H
def tC (v:V):TE:=fun _ H Q=>Q v H
theorem JN {i:Nat} {x:Str} {pos:Pos} (hN:X.N[i]?=some x) (hv:PB X.env.scope x) (hd:(x==("__debug__" : Str))=false:=by decide) (hcd:(x==("__classdict__" : Str))=false:=by decide):PE X (.Name x pos) (NH i):=by
 intro pins s σ H Q I h;obtain⟨v,e,h⟩:=h;obtain⟨m,hn,hl⟩:=I.loc;obtain⟨u,r,l⟩:=hl i x v hN e hv;have fin:EP X pins σ Q u s:=⟨v,H,I,r,h⟩;rcases l with ⟨hk,hm⟩ | ⟨hk,c,hc,hcell⟩
 ·exact wpAny_Name (wpAny_loadName_local I.ok.kind hk hn hm fin) hd
 ·rcases hk with hk | hk
  ·exact wpAny_Name (wpAny_loadName_cell I.ok.kind hk hc hcell fin) hd
  ·exact wpAny_Name (wpAny_loadName_free I.ok.kind hk hc hcell fin hcd) hd
theorem Al {i j pos}:PE X (.Constant (.int i) j pos) (tC (.int i)):=fun _ _ _ H _ I h=>wpAny_Constant_int ⟨.int i,H,I.tok _,⟨_,rfl⟩,h⟩
theorem Ee {b j pos}:PE X (.Constant (.bool b) j pos) (tC (.bl b)):=fun _ _ _ H _ I h=>Constant_bool ⟨.bl b,H,I,rfl,h⟩
theorem Gv {j pos}:PE X (.Constant .none j pos) (tC .non):=fun _ _ _ H _ I h=>Constant_none ⟨.non,H,I,rfl,h⟩
theorem Br {x j pos}:PE X (.Constant (.str x) j pos) (tC (.str x)):=fun _ _ _ H _ I h=>Calls.Constant_str ⟨.str x,H,I.tok _,⟨_,rfl⟩,h⟩
def Gl (X:Cx) (x:Str):Prop:=X.env.kindOf x=some .globalImplicit
theorem Hc {E:Value->Shared->Prop} {pins:List (Addr×Obj)} {s:Shared} {σ:St} {H:Hp} {x:Str} {u:Value} {pos:Pos} {Q:Value->Shared->Prop} (I:Inv X pins σ H s) (hg:Gl X x) (hm:X.mg x=some u) (h:Q u s)
  (hd:(x==("__debug__" : Str))=false:=by decide):wpAny (model X.prog X.w) X.A (eval (.Name x pos) X.env) Q E s:=
 Calls.Name_function_global I.ok.kind hg (Calls.loadGlobal_global (by rw[I.ok.glob]; exact I.mod.glob.keeps I.bk) hm h) hd
theorem Hv {E:Value->Shared->Prop} {pins:List (Addr×Obj)} {s:Shared} {σ:St} {H:Hp} {x:Str} {u:Value} {pos:Pos} {Q:Value->Shared->Prop} (I:Inv X pins σ H s) (hg:Gl X x) (hm:X.mg x=none) (hv:zCx x=some u) (h:Q u s)
  (hn:x ≠ "__name__" := by decide) (hd:(x==("__debug__" : Str))=false:=by decide):wpAny (model X.prog X.w) X.A (eval (.Name x pos) X.env) Q E s:=by
 obtain⟨mb,h1,h2⟩:=I.mod.blt;exact Calls.Name_function_global I.ok.kind hg (Calls.loadGlobal_builtin (by rw[I.ok.glob]; exact I.mod.glob.keeps I.bk) hm (by rw[I.ok.blt]; exact h1.keeps I.bk) ((h2 x hn).trans hv) h) hd
theorem Xu {x:Str} {v:V} {u:Value} {pos:Pos} (hg:Gl X x) (hm:X.mg x=some u) (r:RelV v u) (hd:(x==("__debug__" : Str))=false:=by decide):PE X (.Name x pos) (tC v):=
 fun _ _ _ H _ I h=>Hc I hg hm ⟨v,H,I,r,h⟩ hd
theorem GH {x:Str} {v:V} {u:Value} {pos:Pos} (hg:Gl X x) (hm:X.mg x=none) (hv:zCx x=some u) (r:RelV v u) (hn:x ≠ "__name__" := by decide) (hd:(x==("__debug__" : Str))=false:=by decide):PE X (.Name x pos) (tC v):=
 fun _ _ _ H _ I h=>Hv I hg hm hv ⟨v,H,I,r,h⟩ hn hd
variable {a b:Expr} {ta tb:TE} {pos:Pos}
def PC (X:Cx) (op:CmpOp) (a b:Expr) (t:TE):Prop:=
 ∀ (pins:List (Addr×Obj)) (s:Shared) (σ:St) (H:Hp) (Q:VK),Inv X pins σ H s->t σ H Q ->
  wpAny (model X.prog X.w) X.A (eval a X.env) (fun v s₁ => wpAny (model X.prog X.w) X.A (eval b X.env) (fun u s₂ => wpAny (model X.prog X.w) X.A (compareOp op v u) (EP X pins σ Q) X.xe s₂) X.xe s₁) X.xe s
def tB (t:TE):TT:=fun σ H Q=>t σ H fun x H1=>∃ c,x = .bl c/\Q c H1
theorem JA {op:CmpOp} {t:TE} (h:PC X op a b t) (h1:behindInMarks op b=false:=by first | exact nobehind _ (by decide) (by decide) | rfl):PT X (.Compare a [op] [b] pos) (tB t):=by
 intro pins s σ H Q I hw;refine wpAny_isTrue_Compare1 (Db (h pins s σ H _ I hw) fun v s1 h1=>Db h1 fun u s2 h2=>Db h2 fun c s3 ⟨x,H1,I1,r1,q1⟩=>?_) h1;obtain⟨d,rfl,q⟩:=q1;cases r1;exact wpAny_truthy_bool ⟨H1,I1,q⟩
theorem Cr {e:Expr} {t:TE} (h:PE X e t) (he:∀ whole,isTrue e X.env whole=(do let v <- whole; standAt e.pos; holding [v] (truthy v)):=by intro _; rfl):PT X e (tB t):=by
 intro pins s σ H Q I hw;refine isTrue_plain (Db (h pins s σ H _ I hw) fun v s1 ⟨x,H1,I1,r1,q1⟩=>?_) (he _);obtain⟨d,rfl,q⟩:=q1;cases r1;exact wpAny_truthy_bool ⟨H1,I1,q⟩
variable {tA tB':TT} {rest:List Expr}
def OE (t u:TT):TT:=fun σ H Q=>t σ H fun c H1=>if c=true then u σ H1 Q else Q false H1
def QV (t u:TT):TT:=fun σ H Q=>t σ H fun c H1=>if c=true then Q true H1 else u σ H1 Q
def OC (t:TT):TT:=fun σ H Q=>t σ H fun c H1=>Q (!c) H1
theorem Hg (ha:PT X a tA):PW X (.BoolOp .And [a] pos) tA:=by
 intro wh pins s σ H Q I h;refine isTrue_and (Db (ha pins s σ H Q I h) fun c s1 e=>?_);cases c with
 | true=>exact isTrue_and_nil e
 | false=>exact e
theorem Gg (ha:PT X a tA):PW X (.BoolOp .Or [a] pos) tA:=by
 intro wh pins s σ H Q I h;refine isTrue_or (Db (ha pins s σ H Q I h) fun c s1 e=>?_);cases c with
 | false=>exact isTrue_or_nil e
 | true=>exact e
theorem Jk (ha:PT X a tA) (hb:PW X (.BoolOp .And (b::rest) pos) tB'):PW X (.BoolOp .And (a::b::rest) pos) (OE tA tB'):=by
 intro wh pins s σ H Q I h;refine isTrue_and (Db (ha pins s σ H _ I h) fun c s1 ⟨H1,I1,q1⟩=>?_);cases c with
 | true=>exact hb wh pins s1 σ H1 Q I1 q1
 | false=>exact⟨H1,I1,q1⟩
theorem Hf (ha:PT X a tA) (hb:PW X (.BoolOp .Or (b::rest) pos) tB'):PW X (.BoolOp .Or (a::b::rest) pos) (QV tA tB'):=by
 intro wh pins s σ H Q I h;refine isTrue_or (Db (ha pins s σ H _ I h) fun c s1 ⟨H1,I1,q1⟩=>?_);cases c with
 | true=>exact⟨H1,I1,q1⟩
 | false=>exact hb wh pins s1 σ H1 Q I1 q1
theorem Df (ha:PT X a tA):PT X (.UnaryOp .Not a pos) (OC tA):=by
 intro pins s σ H Q I h;exact isTrue_not (ha pins s σ H (fun c H1=>Q (!c) H1) I h)
def LV (ta tb:TE):TE:=fun σ H Q=>ta σ H fun x H1=>∃ c,x = .bl c/\if c=true then tb σ H1 Q else Q (.bl false) H1
def NP (ta:TE):TE:=fun σ H Q=>ta σ H fun x H1=>∃ c,x = .bl c/\Q (.bl (!c)) H1
theorem Ro {op} {t:TE} (h:PE X a t):PE X (.BoolOp op [a] pos) t:=fun pins s σ H Q I hw=>BoolOp_one (h pins s σ H Q I hw)
theorem Uc (ha:PE X a ta) (hb:PE X (.BoolOp .And (b::rest) pos) tb):PE X (.BoolOp .And (a::b::rest) pos) (LV ta tb):=by
 intro pins s σ H Q I h;refine BoolOp_and (Db (ha pins s σ H _ I h) fun v s1 ⟨x,H1,I1,r1,q1⟩=>?_);obtain⟨c,rfl,q1⟩:=q1;cases r1;refine wpAny_truthy_bool ?_;cases c with
 | true=>exact hb pins s1 σ H1 Q I1 q1
 | false=>exact⟨.bl false,H1,I1,rfl,q1⟩
theorem Xw (ha:PE X a ta):PE X (.UnaryOp .Not a pos) (NP ta):=by
 intro pins s σ H Q I h;refine UnaryOp_ (Db (ha pins s σ H _ I h) fun v s1 ⟨x,H1,I1,r1,q1⟩=>?_);obtain⟨c,rfl,q1⟩:=q1;cases r1;exact not_of (wpAny_truthy_bool ⟨.bl (!c),H1,I1,rfl,q1⟩)
def QR (t:TT) (ta tb:TE):TE:=fun σ H Q=>t σ H fun c H1=>if c=true then ta σ H1 Q else tb σ H1 Q
theorem Ju {c:Expr} (hc:PT X c tA) (ha:PE X a ta) (hb:PE X b tb):PE X (.IfExp c a b pos) (QR tA ta tb):=by
 intro pins s σ H Q I h;refine wpAny_IfExp (Db (hc pins s σ H _ I h) fun d s1 ⟨H1,I1,q1⟩=>?_);cases d with
 | true=>exact ha pins s1 σ H1 Q I1 q1
 | false=>exact hb pins s1 σ H1 Q I1 q1
end
def SqL (K:zAa) (H:Hp) (a:Addr) (xs:List V):Prop:=
 Rd H a (.lst xs) \/
  ∃ (o:Obj) (its:Array Value) (n:Nat),K.lookup a=some o/\o.cls = .type "list"/\o.dict=none/\o.data = .seq its n/\its.size<=sizeLine/\Vals xs its.toList
def SqT (K:zAa) (H:Hp) (a:Addr) (xs:List V):Prop:=
 Rd H a (.tup xs) \/
  ∃ (o:Obj) (its:Array Value) (n:Nat),K.lookup a=some o/\o.cls = .type "tuple"/\o.data = .seq its n/\its.size<=sizeLine/\Vals xs its.toList
def PV:Value->Option V
 | .none=>some .non
 | .bool b=>some (.bl b)
 | .int i _=>some (.int i)
 | .str x _=>some (.str x)
 | .bytes b _=>some (.byt b)
 | .float b _=>some (.flt b)
 | .ref a=>some (.ref a)
 | .type n=>some (.ty n)
 | _=>none
theorem RelV.abs {x:V} {u:Value} (r:RelV x u):PV u=some x:=by
 cases x with
 | non=>cases r; rfl
 | bl _=>cases r; rfl
 | int _=>obtain⟨t,rfl⟩:=r; rfl
 | str _=>obtain⟨t,rfl⟩:=r; rfl
 | byt _=>obtain⟨t,rfl⟩:=r; rfl
 | flt _=>obtain⟨t,rfl⟩:=r; rfl
 | ref _=>cases r; rfl
 | ty _=>cases r; rfl
theorem RelV.inj {x y:V} {u:Value} (r:RelV x u) (q:RelV y u):x=y:=Option.some.inj (r.abs.symm.trans q.abs)
theorem Vals.inj:∀ {xs ys:List V} {us:List Value},Vals xs us->Vals ys us->xs=ys
 | _,_,_,.nil,.nil=>rfl
 | _,_,_,.cons r t,.cons r' t'=>by rw[r.inj r',Vals.inj t t']
section
variable {X:Cx} {pins:List (Addr×Obj)} {σ:St} {H:Hp} {s:Shared} {a:Addr} {xs ys:List V}
theorem SqL.of {K:zAa} (h:H a=some (.lst xs)):SqL K H a xs:=.inl (.inl h)
theorem SqT.of {K:zAa} (h:H a=some (.tup xs)):SqT K H a xs:=.inl (.inl h)
theorem Inv.list (I:Inv X pins σ H s) (h:SqL X.K H a xs):∃ its:List Value,Vals xs its/\PlainL s.heap a its.toArray/\xs.length<=sizeLine:=by
 rcases h with h | ⟨o,its,n,hk,hc,hd,hs,hz,r⟩
 ·obtain⟨z,its,n,r,e⟩:=h.ok I.hok
  exact⟨its,r,⟨_,n,e,rfl,rfl,rfl⟩,z⟩
 ·refine⟨its.toList,r,⟨o,n,I.kIn a o hk,hc,hd,by simpa using hs⟩,?_⟩
  have e:=r.length;simp only [zAC] at e
  lia
theorem Inv.tuple (I:Inv X pins σ H s) (h:SqT X.K H a xs):∃ its:List Value,Vals xs its/\IsTup s.heap a its.toArray/\xs.length<=sizeLine:=by
 rcases h with h | ⟨o,its,n,hk,hc,hs,hz,r⟩
 ·obtain⟨z,its,r,p⟩:=h.ok I.hok
  exact⟨its,r,p,z⟩
 ·refine⟨its.toList,r,⟨o,I.kIn a o hk,hc,n,by simpa using hs⟩,?_⟩
  have e:=r.length;simp only [zAC] at e
  lia
theorem Inv.list_inj (I:Inv X pins σ H s) (h:SqL X.K H a xs) (h':SqL X.K H a ys):xs=ys:=by
 obtain⟨its,r,⟨o,n,e,_,_,d⟩,_⟩:=I.list h;obtain⟨its',r',⟨o',n',e',_,_,d'⟩,_⟩:=I.list h';rw[e] at e'; cases e';rw[d] at d';injection d' with d1 _;have:its=its':=by simpa using congrArg Array.toList d1
 subst this;exact r.inj r'
theorem Inv.tuple_inj (I:Inv X pins σ H s) (h:SqT X.K H a xs) (h':SqT X.K H a ys):xs=ys:=by
 obtain⟨its,r,⟨o,e,_,n,d⟩,_⟩:=I.tuple h;obtain⟨its',r',⟨o',e',_,n',d'⟩,_⟩:=I.tuple h';rw[e] at e'; cases e';rw[d] at d';injection d' with d1 _;have:its=its':=by simpa using congrArg Array.toList d1
 subst this;exact r.inj r'
end
abbrev Cx.wish (X:Cx) (E:Value->Shared->Prop):Cx:={ X with xe:=E }
abbrev Cx.nox (X:Cx):Cx:=X.wish fun _ _=>False
theorem Cx.Ok.wish {X:Cx} (ok:X.Ok) (E:Value->Shared->Prop):(X.wish E).Ok:=
 ⟨ok.mod,ok.kind,ok.glob,ok.blt,ok.above,ok.inj,ok.has,ok.cab,ok.hd,ok.frames,ok.stk,ok.exf,ok.bs,ok.bsz,ok.noex,ok.exfs,ok.funs,ok.frf⟩
theorem Cx.Ok.unwish {X:Cx} {E:Value->Shared->Prop} (ok:(X.wish E).Ok):X.Ok:=
 ⟨ok.mod,ok.kind,ok.glob,ok.blt,ok.above,ok.inj,ok.has,ok.cab,ok.hd,ok.frames,ok.stk,ok.exf,ok.bs,ok.bsz,ok.noex,ok.exfs,ok.funs,ok.frf⟩
section
variable {X:Cx} {pins:List (Addr×Obj)} {σ:St} {H:Hp} {s:Shared} {E:Value->Shared->Prop}
theorem Inv.wish (I:Inv X pins σ H s) (E:Value->Shared->Prop):Inv (X.wish E) pins σ H s:=⟨I.ok.wish E,I.os,I.bare,I.base,I.loc,I.cell,I.free,I.freeC,I.pin,I.hok,I.len⟩
theorem Inv.unwish (I:Inv (X.wish E) pins σ H s):Inv X pins σ H s:=⟨I.ok.unwish,I.os,I.bare,I.base,I.loc,I.cell,I.free,I.freeC,I.pin,I.hok,I.len⟩
theorem SP.unwish {D:Qy} {f:Flow} {s':Shared} (h:SP (X.wish E) pins D f s'):SP X pins D f s':=by
 cases f with
 | next=>obtain⟨σ',H',I,q⟩:=h; exact⟨σ',H',I.unwish,q⟩
 | brk=>obtain⟨σ',H',I,q⟩:=h; exact⟨σ',H',I.unwish,q⟩
 | cont=>obtain⟨σ',H',I,q⟩:=h; exact⟨σ',H',I.unwish,q⟩
 | ret u=>obtain⟨v,σ',H',I,r,q⟩:=h; exact⟨v,σ',H',I.unwish,r,q⟩
theorem PSs.nox {st:List Stmt} {t:TS} (h:PSs X.nox st t):PSs X st t:=fun pins s σ H D I hw=>
 wpAny_mono (h pins s σ H D (I.wish _) hw) (fun _ _ q=>q.unwish) fun _ _ z=>False.elim z
end
section
variable {X:Cx} {st:Stmt} {rest:List Stmt} {t u:TS} {e:Expr} {te:TE} {pos:Pos}
def MF:TS:=fun D σ H=>D.nx σ H
def LT (t u:TS):TS:=fun D σ H=>t { D with nx:=u D } σ H
theorem Bk:PSs X [] MF:=fun _ _ σ H _ I h=>wpAny_execs_nil ⟨σ,H,I,h⟩
theorem Ae (h1:PS X st t) (h2:PSs X rest u):PSs X (st::rest) (LT t u):=by
 intro pins s σ H D I h;refine wpAny_execs_cons (Db (h1 pins s σ H { D with nx:=u D } I h) fun f s1 q=>?_);cases f with
 | next=>
  obtain⟨σ',H',I',q⟩:=q;exact h2 pins s1 σ' H' D I' q
 | ret v=>exact q
 | brk=>exact q
 | cont=>exact q
theorem An (h1:PS X st t):PSs X [st] t:=by
 intro pins s σ H D I h;refine wpAny_execs_cons (Db (h1 pins s σ H D I h) fun f s1 q=>?_);cases f with
 | next=>exact wpAny_execs_nil q
 | ret v=>exact q
 | brk=>exact q
 | cont=>exact q
theorem Inv.quiet {pins:List (Addr×Obj)} {σ:St} {H:Hp} {s:Shared} (I:Inv X pins σ H s):interactive X.env=false:=by simp [interactive,I.ok.kind]
def MX (te:TE):TS:=fun D σ H=>te σ H fun _ H1=>D.nx σ H1
theorem Ct (he:PE X e te) (hs:swapsWith e none pos.line X.env=pure false:=by rfl):PS X (.Expr e pos) (MX te):=by
 intro pins s σ H D I h;exact wpAny_Expr_any (Db (he pins s σ H _ I h) fun v s1 ⟨x,H1,I1,r1,q1⟩=>⟨σ,H1,I1,q1⟩) I.quiet hs
def OF (te:TE):TS:=fun D σ H=>te σ H D.rt
theorem Bc (he:PE X e te):PS X (.Return (some e) pos) (OF te):=by
 intro pins s σ H D I h;exact wpAny_Return_some (Db (he pins s σ H _ I h) fun v s1 ⟨x,H1,I1,r1,q1⟩=>⟨x,σ,H1,I1,r1,q1⟩)
def OP (c:TT) (t u:TS):TS:=fun D σ H=>c σ H fun b H1=>if b=true then t D σ H1 else u D σ H1
theorem Bt {c:Expr} {a b:List Stmt} {tc:TT} (hc:PT X c tc) (ha:PSs X a t) (hb:PSs X b u):PS X (.If c a b pos) (OP tc t u):=by
 intro pins s σ H D I h;refine wpAny_If (Db (hc pins s σ H _ I h) fun d s1 ⟨H1,I1,q1⟩=>?_);cases d with
 | true=>exact ha pins s1 σ H1 D I1 q1
 | false=>exact hb pins s1 σ H1 D I1 q1
def KY:TS:=fun _ _ _=>False
theorem Fa:PS X st KY:=fun _ _ _ _ _ _ h=>h.elim
end
abbrev TG:=V->St->Hp->(St->Hp->Prop)->Prop
abbrev II:=List V->St->Hp->(St->Hp->Prop)->Prop
def PG (X:Cx) (target:Expr) (t:TG):Prop:=
 ∀ (pins:List (Addr×Obj)) (s:Shared) (σ:St) (H:Hp) (v:V) (u:Value) (Q:St->Hp->Prop),Inv X pins σ H s->RelV v u->t v σ H Q ->
  wpAny (model X.prog X.w) X.A (assign target X.env u) (fun _ s'=>∃ σ' H',Inv X pins σ' H' s'/\Q σ' H') X.xe s
def LU (X:Cx) (ts:List Expr) (t:II):Prop:=
 ∀ (pins:List (Addr×Obj)) (s:Shared) (σ:St) (H:Hp) (vs:List V) (us:List Value) (Q:St->Hp->Prop),Inv X pins σ H s->Vals vs us->t vs σ H Q ->
  wpAny (model X.prog X.w) X.A (assignInOrder ((assignEach ts X.env).map (·.2)) us) (fun _ s'=>∃ σ' H',Inv X pins σ' H' s'/\Q σ' H') X.xe s
abbrev JH:=V->V->V->Hp->(Hp->Prop)->Prop
def MK (X:Cx) (t:JH):Prop:=
 ∀ (pins:List (Addr×Obj)) (s:Shared) (σ:St) (H:Hp) (o i v:V) (ov iv u:Value) (Q:Hp->Prop),Inv X pins σ H s->RelV o ov->RelV i iv->RelV v u->t o i v H Q ->
  wpAny (model X.prog X.w) X.A (setItem ov iv u) (fun _ s'=>∃ H',Inv X pins σ H' s'/\Q H') X.xe s
section
variable {X:Cx} {pos:Pos}
def Er (i:Nat):TG:=fun v σ H Q=>Q (σ.set i (some v)) H
theorem Ay {i:Nat} {x:Str} (hN:X.N.Nodup) (hi:X.N[i]?=some x) (hx:NU X.env.scope x) (hf:X.fn x=true\/X.env.scope.names.lookup x=some .local:=by first | exact .inl rfl | exact .inr rfl | assumption):PG X (.Name x pos) (Er i):=by
 intro pins s σ H v u Q I r h;exact wpAny_assign_Name (A6 I hN hi hx r (fun s' I'=>⟨_,H,I',h⟩) hf)
def EE:II:=fun vs σ H Q=>vs=[]/\Q σ H
def Kn (t:TG) (u:II):II:=fun vs σ H Q=>∃ v r,vs=v::r/\t v σ H fun σ' H'=>u r σ' H' Q
theorem Di:LU X [] EE:=by
 intro pins s σ H vs us Q I r h;obtain⟨e,h⟩:=h;subst e;cases r;exact assignInOrder_nil ⟨σ,H,I,h⟩
theorem Bm {e:Expr} {es:List Expr} {t:TG} {u:II} (h1:PG X e t) (h2:LU X es u)
  (hs:(assignEach (e::es) X.env).map (·.2)=assign e X.env::(assignEach es X.env).map (·.2):=by rfl):LU X (e::es) (Kn t u):=by
 intro pins s σ H vs us Q I r h;obtain⟨v,vr,e1,h⟩:=h;subst e1;cases r with
 | cons r rr=>
  rw[hs];refine assignInOrder_cons (Db (h1 pins s σ H _ _ _ I r h) fun _ s1 ⟨σ1,H1,I1,q1⟩=>?_);exact h2 pins s1 σ1 H1 _ _ Q I1 rr q1
def AZ (K:zAa) (n:Nat) (t:II):TG:=fun v σ H Q=>∃ a xs,v = .ref a/\SqT K H a xs/\xs.length=n/\t xs σ H Q
theorem Ez {es:List Expr} {k:Nat} {t:II} {n:Nat} (hc:X.calm=true) (h:LU X es t)
  (hn:(assignEach es X.env).length=n:=by rfl) (hst:(assignEach es X.env).findIdx? (·.1)=none:=by rfl):PG X (.Tuple es k pos) (AZ X.K n t):=by
 intro pins s σ H v u Q I r hw;obtain⟨a,xs,e1,hq,hl,hw⟩:=hw;subst e1;cases r;obtain⟨its,rv,ht,hz⟩:=I.tuple hq;refine assign_Tuple_tuple (I.ok.hd hc) ht (by simp [hn,<- hl,rv.length]) hst fun h' hx=>?_;have I1:Inv X pins σ H { s with heap:=h' }:=I.kept (t':=s.toks) fun b o e=>hx b o (zAu (zAq e)) e;exact h pins _ σ H xs _ Q I1 (by simpa using rv) hw
def PN (to ti:TE) (t:JH):TG:=fun v σ H Q=>to σ H fun o H1=>ti σ H1 fun i H2=>t o i v H2 fun H3=>Q σ H3
theorem LG {o i:Expr} {to ti:TE} {t:JH} (ho:PE X o to) (hi:PE X i ti) (hs:MK X t)
  (ha:∀ v,assign (.Subscript o i pos) X.env v=(do
   let ov <- holding [v] (eval o X.env)
   let iv <- holding [v,ov] (eval i X.env)
   standAt pos
   holding [v,ov,iv] (setItem ov iv v)
   release [v,ov,iv] []):=by intro _; rfl):PG X (.Subscript o i pos) (PN to ti t):=by
 intro pins s σ H v u Q I r h;rw[ha];refine zCu (wpAny_holding (Db (ho pins s σ H _ I h) fun ov s1 ⟨x,H1,I1,r1,q1⟩=>?_));refine zCu (wpAny_holding (Db (hi pins s1 σ H1 _ I1 q1) fun iv s2 ⟨y,H2,I2,r2,q2⟩=>?_));refine zCu (wpAny_standAt (zCu (wpAny_holding (Db (hs pins s2 σ H2 x y v ov iv u _ I2 r1 r2 r q2) fun _ s3 ⟨H3,I3,q3⟩=>?_))));exact wpAny_release ⟨σ,H3,I3,q3⟩
def IA (te:TE) (g:TG):TS:=fun D σ H=>te σ H fun x H1=>g x σ H1 D.nx
theorem O6 {tg e:Expr} {te:TE} {g:TG} (he:PE X e te) (hg:PG X tg g) (hs:swapsWithSole [tg] e pos.line X.env=pure false:=by rfl) (hw:swappedStores [tg] e X.env=pure none:=by rfl)
  (h1:(assignEach [tg] X.env).map (·.2)=[assign tg X.env]:=by rfl):PS X (.Assign [tg] e pos) (IA te g):=by
 intro pins s σ H D I h;refine wpAny_Assign_stores (Db (he pins s σ H _ I h) fun v s1 ⟨x,H1,I1,r1,q1⟩=>?_) hs hw;rw[h1];exact Db (hg pins s1 σ H1 x v _ I1 r1 q1) fun _ s2 q=>q
theorem Bh {i:Nat} {x:Str} {e:Expr} {te:TE} {pos':Pos} (hN:X.N.Nodup) (hi:X.N[i]?=some x) (hx:NU X.env.scope x) (he:PE X e te) (hs:swapsWith e (some (.Name x pos')) pos.line X.env=pure false:=by rfl) (hf:X.fn x=true\/X.env.scope.names.lookup x=some .local:=by first | exact .inl rfl | exact .inr rfl | assumption) :
  PS X (.Assign [.Name x pos'] e pos) (IA te (Er i)):=by
 intro pins s σ H D I h;refine wpAny_Assign_Name (Db (he pins s σ H _ I h) fun v s1 ⟨y,H1,I1,r1,q1⟩=>?_) hs;exact A6 I1 hN hi hx r1 (fun s2 I2=>⟨_,H1,I2,q1⟩) hf
end
structure It where
 go:Nat->Hp->Prop
 yld:Nat->Hp->V->Hp->Prop
 stop:Nat->Hp->Prop
def Oh (X:Cx) (pins:List (Addr×Obj)) (H:Hp) (b:Addr):Prop:=
 H b=none/\b≠X.env.locals/\b∉X.fs/\(b∈X.ex\/X.s₀.heap.objs.size<=b)/\(∀ x c,X.env.cells.lookup x=some c->c≠b)/\∀ p∈X.pn++pins,p.1≠b
theorem Inv.fpOk {X:Cx} {pins:List (Addr×Obj)} {σ:St} {H H':Hp} {s:Shared} {b:Addr} (I:Inv X pins σ H s) (hb:s.heap.objs.size<=b) (hn:H' b=none):Oh X pins H' b:=by
 refine⟨hn,zBs (zAJ I.lt hb),I.nofs hb,.inr (zAE I.sz hb),fun x c e z=>?_,fun p hp z=>?_⟩
 ·obtain⟨v,q⟩:=I.cell x c e
  exact absurd (zAJ q.lt (by rw[z]; exact hb)) (zBl _)
 ·exact absurd (zAJ (zAq (I.pin p hp).1) (by rw[z]; exact hb)) (zBl _)
structure C0 (P:Program) (w:World) (K:zAa) (tg:Expr) (J:It) (fp:List Addr) (it:Addr) (tn:Nat->Heap->Prop):Prop where
 mem:it∈fp
 obj:∀ i h,tn i h->∀ b∈fp,∃ o,h.get? b=some o/\∀ v,o.data ≠ .cell v
 keep:∀ i h h',tn i h->(∀ b∈fp,∀ o,h.get? b=some o->h'.get? b=some o)->tn i h'
 item:∀ (X:Cx),X.prog=P->X.w=w->X.K=K->X.calm=true->∀ (i:Nat) (pins:List (Addr×Obj)) (s:Shared) (σ:St) (H:Hp) (E:Value->Shared->Prop),Inv X pins σ H s->(∀ b∈fp,Oh X pins H b)->tn i s.heap->J.go i H ->
  wpAny (model P w) X.A (pyNext (.ref it)) (fun r s1=>∃ u,r=some u /\
   wpAny (model P w) X.A (letOwnedTupleGo tg (.ref it) u) (fun _ s2=>∃ x H',Inv X pins σ H' s2/\RelV x u/\J.yld i H x H'/\tn (i+1) s2.heap/\∀ b∈fp,H' b=none) E s1) E s
 done:∀ (X:Cx),X.prog=P->X.w=w->X.K=K->X.calm=true->∀ (i:Nat) (pins:List (Addr×Obj)) (s:Shared) (σ:St) (H:Hp) (E:Value->Shared->Prop),Inv X pins σ H s->(∀ b∈fp,Oh X pins H b)->tn i s.heap->J.stop i H ->
  wpAny (model P w) X.A (pyNext (.ref it)) (fun r s1=>r=none/\Inv X pins σ H s1) E s
 self:∀ (A:Around) (i:Nat) (s:Shared) (Q:Value->Shared->Prop) (E:Value->Shared->Prop),tn i s.heap->Q (.ref it) s->wpAny (model P w) A (pyIter (.ref it)) Q E s
abbrev TI:=St->Hp->(It->Hp->Prop)->Prop
def QH (X:Cx) (pins:List (Addr×Obj)) (σ:St) (tg:Expr) (R:It->Hp->Prop) (itv:Value) (s2:Shared):Prop:=
 ∃ (it:Addr) (fp:List Addr) (tn:Nat->Heap->Prop) (J:It) (H':Hp),itv = .ref it/\Inv X pins σ H' s2/\C0 X.prog X.w X.K tg J fp it tn/\tn 0 s2.heap/\(∀ b∈fp,Oh X pins H' b)/\R J H'
def PI (X:Cx) (tg iter:Expr) (wi:TI):Prop:=
 ∀ (pins:List (Addr×Obj)) (s:Shared) (σ:St) (H:Hp) (R:It->Hp->Prop),Inv X pins σ H s->wi σ H R ->
  wpAny (model X.prog X.w) X.A (eval iter X.env) (fun v s1=>wpAny (model X.prog X.w) X.A (pyIter v) (QH X pins σ tg R) X.xe s1) X.xe s
theorem V8 {M:Model} {A:Around} {E:Value->Shared->Prop} {s:Shared} {tg:Expr} {it:Addr} {u:Value} {o:Obj} {n:String} {vs:Array Value} {Q:Unit->Shared->Prop} (ho:s.heap.get? it=some o) (hc:o.cls = .type n) (hd:o.data = .fields vs)
  (hn:["enumerate", "zip", "dict_itemiterator", "dict_reverseitemiterator", "odict_iterator", "itertools.zip_longest", "itertools.pairwise"].contains n=false) (hQ:Q () s):wpAny M A (letOwnedTupleGo tg (.ref it) u) Q E s:=by
 unfold letOwnedTupleGo;cases tg <;> first
  | exact zCv hQ
  | (cases u <;> first
    | exact zCv hQ
    | (refine zCu (wpAny_load ho ?_)
       rw[hc,hd];show wpAny M A (if (["enumerate", "zip", "dict_itemiterator", "dict_reverseitemiterator", "odict_iterator", "itertools.zip_longest", "itertools.pairwise"].contains n&&vs[0]?==some (rawInt _))=true then _ else _) Q E s;rw[if_neg (by intro h; rw[hn,zBH] at h; cases h)];exact zCv hQ))
def KS (K:zAa) (a:Addr):It:=
 ⟨fun i H=>∃ xs x,SqL K H a xs/\xs[i]?=some x,fun i H x H'=>H'=H/\∀ xs,SqL K H a xs->xs[i]?=some x,fun i H=>∃ xs,SqL K H a xs/\xs.length<=i⟩
def KM (lo:Int) (n:Nat):It:=⟨fun i _=>i<n,fun i H x H'=>H'=H/\x = .int (lo+i),fun i _=>n<=i⟩
theorem AM {P:Program} {w:World} {K:zAa} {tg:Expr} (a it:Addr):C0 P w K tg (KS K a) [it] it (fun i h=>h.IsListIter it a i) where
 mem:=by simp
 obj:=fun i h st b hb=>by
  have e:b=it:=by simpa using hb
  subst e;obtain⟨o,e,c,d⟩:=st;exact⟨o,e,fun v z=>by rw[d] at z; cases z⟩
 keep:=fun i h h' st k=>st.at fun o e=>k it (by simp) o e
 item:=by
  intro X hP hw hK hc i pins s σ H E I hf st hg;subst hP hw hK;obtain⟨xs,x,hq,hx⟩:=hg;obtain⟨its,rv,p,hz⟩:=I.list hq;obtain⟨u,hu,ru⟩:=rv.get hx;obtain⟨f0,f1,f2,f3,f4,f5⟩:=hf it (by simp);refine wpAny_pyNext_list_item st p.isList (x:=u) (by simpa using hu) fun h' st' sb=>?_;have I1:Inv X pins σ H { s with heap:=h' }:=I.turned (t':=s.toks) (fun b o hb e=>(sb.2 b hb).trans e) f0 f1 f3 f4 f5;obtain⟨o,e,c,d⟩:=id st';exact⟨u,rfl,V8 (s:={ s with heap:=h' }) e c d (by decide) ⟨x,H,I1,ru,⟨rfl,fun ys hy=>by rw[I.list_inj hy hq]; exact hx⟩,st',fun b hb=>(hf b hb).1⟩⟩
 done:=by
  intro X hP hw hK hc i pins s σ H E I hf st hg;subst hP hw hK;obtain⟨xs,hq,hx⟩:=hg;obtain⟨its,rv,p,hz⟩:=I.list hq;obtain⟨f0,f1,f2,f3,f4,f5⟩:=hf it (by simp);have hl:=rv.length;exact wpAny_pyNext_list_end (I.ok.hd hc) st p.isList (by simp; lia) fun h' eb=>⟨rfl,I.turned (t':=s.toks) (fun b o hb e=>eb b o hb e) f0 f1 f3 f4 f5⟩
 self:=fun _ _ _ _ _ st h=>wpAny_pyIter_listiter st h
theorem I0 {P:Program} {w:World} {K:zAa} {tg:Expr} (it:Addr) (lo:Int) (n:Nat):C0 P w K tg (KM lo n) [it] it (fun i h=>IsRangeIter h it (lo+(i:Nat)*1) ((n:Int)-(i:Nat)) 1) where
 mem:=by simp
 obj:=fun i h st b hb=>by
  have e:b=it:=by simpa using hb
  subst e;exact⟨_,st,fun v z=>by
   have z':Data.fields _=Data.cell v:=z;cases z'⟩
 keep:=fun i h h' st k=>k it (by simp) _ st
 item:=by
  intro X hP hw hK hc i pins s σ H E I hf st hg;subst hP hw hK;obtain⟨f0,f1,f2,f3,f4,f5⟩:=hf it (by simp);have W:=Walks.range (prog:=X.prog) (w:=X.w) (I.ok.hd hc) it lo 1 n;refine W.item i s _ _ hg st fun v h' tk hv st' kk=>?_;obtain⟨t,rfl⟩:=hv;have I1:Inv X pins σ H { s with heap:=h',toks:=tk }:=I.turned (fun b o hb e=>kk b o (by simpa using hb) e) f0 f1 f3 f4 f5;refine⟨_,rfl,V8 (s:={ s with heap:=h',toks:=tk }) (n := "range_iterator") st' rfl rfl (by decide) ⟨.int (lo+i),H,I1,⟨t,?_⟩,⟨rfl,rfl⟩,st',fun b hb=>(hf b hb).1⟩⟩;rw[Int.mul_one]
 done:=by
  intro X hP hw hK hc i pins s σ H E I hf st hg;subst hP hw hK;obtain⟨f0,f1,f2,f3,f4,f5⟩:=hf it (by simp);exact wpAny_pyNext_range_end (I.ok.hd hc) st (by have:n<=i:=hg; lia) fun h' eb=>⟨rfl,I.turned (t':=s.toks) (fun b o hb e=>eb b o hb e) f0 f1 f3 f4 f5⟩
 self:=fun _ _ _ _ _ st h=>wpAny_pyIter_rangeiter st h
section
variable {X:Cx} {tg:Expr}
def MY (K:zAa) (tl:TE):TI:=fun σ H R=>tl σ H fun x H1=>∃ a,x = .ref a/\(∃ xs,SqL K H1 a xs)/\R (KS K a) H1
theorem Bs {l:Expr} {tl:TE} (hl:PE X l tl):PI X tg l (MY X.K tl):=by
 intro pins s σ H R I h;refine Db (hl pins s σ H _ I h) fun v s1 ⟨x,H1,I1,r1,q1⟩=>?_;obtain⟨a,e,⟨xs,hq⟩,q⟩:=q1;subst e;cases r1;obtain⟨its,rv,p,hz⟩:=I1.list hq;refine wpAny_pyIter_list p.isList ?_;refine⟨s1.heap.objs.size,[s1.heap.objs.size],_,_,H1,rfl,I1.kept (t':=s1.toks) fun b o e=>zAf _ e,AM a _,⟨_,zAy _ rfl,rfl,rfl⟩,fun b hb=>?_,q⟩;have e:b=s1.heap.objs.size:=by simpa using hb
 subst e;exact I1.fpOk (zAl _) (I1.hok.fresh (zAl _))
theorem EF {pins:List (Addr×Obj)} {σ:St} {H:Hp} {s:Shared} {R:It->Hp->Prop} {E:Value->Shared->Prop} {lo hi:Int} {t u v:Tok} {tk:Nat} (I:Inv X pins σ H s) (h1 : -(2^62)<=lo) (h2:lo<2^62) (h3 : -(2^62)<=hi) (h4:hi<2^62)
  (q:R (KM lo (hi-lo).toNat) H):wpAny (model X.prog X.w) X.A (pyIter (.ref s.heap.objs.size)) (QH X pins σ tg R) E { s with heap:=s.heap.push { cls:=.type "range",data:=.fields #[.int lo t,.int hi u,.int 1 v] },toks:=tk }:=by
 refine wpAny_pyIter_range (IsRange.new ..) (small_one h1 h2 h3 h4) ?_;have I1:Inv X pins σ H { s with heap:=s.heap.push { cls:=.type "range",data:=.fields #[.int lo t,.int hi u,.int 1 v] },toks:=tk }:=I.kept fun b o e=>zAf _ e;refine⟨(s.heap.push { cls:=.type "range",data:=.fields #[.int lo t,.int hi u,.int 1 v] }).objs.size,[(s.heap.push { cls:=.type "range",data:=.fields #[.int lo t,.int hi u,.int 1 v] }).objs.size],_,_,H,rfl,
  I1.kept (t':=tk) fun b o e=>zAf _ e,I0 _ lo (hi-lo).toNat,?_,fun b hb=>?_,q⟩
 ·have e1:lo+((0:Nat):Int)*1=lo:=by simp
  have e2:(((hi-lo).toNat:Nat):Int)-((0:Nat):Int)=Builtin.Range.rangeSize lo hi 1:=by rw[rangeSize_one]; split <;> lia
  show IsRangeIter _ _ (lo+((0:Nat):Int)*1) ((((hi-lo).toNat:Nat):Int)-((0:Nat):Int)) 1;rw[e1,e2];exact zAy _ rfl
 ·have e:b=(s.heap.push { cls:=.type "range",data:=.fields #[.int lo t,.int hi u,.int 1 v] }).objs.size:=by simpa using hb
  subst e;exact I1.fpOk (zAl _) (I1.hok.fresh (zAl _))
def MJ (ta:TA):TI:=fun σ H R=>ta σ H fun vs H1=>∃ j:Int,vs=[.int j]/\-(2^62)<=j/\j<2^62/\R (KM 0 j.toNat) H1
theorem Do {a:Expr} {ta:TA} {p pos:Pos} (hg:Gl X "range") (hm:X.mg "range" = none) (ha:PA X [a] ta) (hs:starEach [a] X.env=[(false,eval a X.env)]:=by rfl):PI X tg (.Call (.Name "range" p) [a] [] pos) (MJ ta):=by
 intro pins s σ H R I h;refine Call_ (Hv I hg hm boot_range (PyProof.Rows.callWith_type1 (Db (ha pos pins s σ H _ I h) fun us s1 ⟨vs,H1,I1,r1,q1⟩=>?_) hs rfl));obtain⟨j,e,q1,q2,q⟩:=q1;subst e;cases r1 with
 | cons r rr=>
  cases rr
  obtain⟨t,rfl⟩:=r;exact call_range_1 (EF I1 (by lia) (by lia) q1 q2 (by simpa using q))
def OV (wi:TI) (g:TG) (tb:TS):TS:=fun D σ H=>wi σ H fun J H1=>∃ W:Nat->Nat->St->Hp->Prop,(∃ m,W 0 m σ H1)/\∀ i m σ H,W i m σ H ->
 (J.stop i H/\D.nx σ H)\/(J.go i H/\∃ N:St->Hp->Prop,(∀ σ' H',N σ' H'->∃ m',m'<m/\W (i+1) m' σ' H')/\∀ x H',J.yld i H x H'->g x σ H' fun σ2 H2=>tb { D with nx:=N,ct:=N,bk:=D.nx } σ2 H2)
def Tq (fp:List Addr) (h:Heap):List (Addr×Obj):=fp.filterMap fun b=>(h.get? b).map fun o=>(b,o)
theorem Jb {fp:List Addr} {h:Heap} {b:Addr} {o:Obj} (hb:b∈fp) (e:h.get? b=some o):(b,o)∈Tq fp h:=List.mem_filterMap.mpr ⟨b,hb,by rw[e]; rfl⟩
theorem AQ {fp:List Addr} {h:Heap} {p:Addr×Obj} (hp:p∈Tq fp h):p.1∈fp/\h.get? p.1=some p.2:=by
 obtain⟨b,hb,e⟩:=List.mem_filterMap.mp hp;cases q:h.get? b with
 | none=>rw[q] at e; cases e
 | some o=>
  rw[q] at e;have e':(b,o)=p:=Option.some.inj e;subst e';exact⟨hb,q⟩
theorem Inv.pinned {pins:List (Addr×Obj)} {σ:St} {H:Hp} {s:Shared} {fp:List Addr} (I:Inv X pins σ H s) (hf:∀ b∈fp,Oh X pins H b) (ho:∀ b∈fp,∃ o,s.heap.get? b=some o/\∀ v,o.data ≠ .cell v):Inv X (pins++Tq fp s.heap) σ H s:=
 I.pins_of fun p hp=>(zAz.mp hp).elim (fun z=>I.pin p (zAO _ z)) fun z=>by
  obtain⟨hb,e⟩:=AQ z;obtain⟨f0,f1,f2,_⟩:=hf p.1 hb;obtain⟨o,e',d⟩:=ho p.1 hb;rw[e] at e'; cases e';exact⟨e,f0,f1,f2,d⟩
theorem Inv.unpinned {pins pl:List (Addr×Obj)} {σ:St} {H:Hp} {s:Shared} (I:Inv X (pins++pl) σ H s):Inv X pins σ H s:=I.pins_of fun p hp=>I.pin p (zAO _ (zBY _ hp))
theorem Cj {iter:Expr} {body:List Stmt} {wi:TI} {g:TG} {tb:TS} {pos:Pos} (hp:PassesOwn (model X.prog X.w) X.A X.env X.xe) (hc:X.calm=true) (hi:PI X tg iter wi) (hg:PG X tg g) (hb:PSs X body tb)
  (hs:∀ x,foldedSetIterable iter X.env x=pure x:=by intro _; rfl):PS X (.For tg iter body [] pos) (OV wi g tb):=by
 intro pins s σ H D I h;refine wpAny_For (Db (hi pins s σ H _ I h) fun v s1 h1=>Db h1 fun itv s2 h2=>?_) hs;obtain⟨it,fp,tn,J,H2,e,I2,T,st2,f2,W,⟨m0,w0⟩,turn⟩:=h2;subst e;have stat:∀ {H':Hp},(∀ b∈fp,H' b=none)->∀ b∈fp,Oh X pins H' b:=fun hn b hb=>⟨hn b hb,(f2 b hb).2⟩;refine codeAny_forLoop_any (fun n s'=>∃ i σ' H',Inv X pins σ' H' s'/\tn i s'.heap/\(∀ b∈fp,H' b=none)/\W i n σ' H') ?_ m0 ⟨0,σ,H2,I2,st2,fun b hb=>(f2 b hb).1,w0⟩;rintro n s3 ⟨i,σ3,H3,I3,st3,fr3,w3⟩;rcases turn i n σ3 H3 w3 with ⟨stop,qn⟩ | ⟨go,N,hN,step⟩
 ·refine wpAny_passesOwn hp (Db (T.done X rfl rfl rfl hc i pins s3 σ3 H3 X.xe I3 (stat fr3) st3 stop) fun r s4 ⟨hr,I4⟩=>?_)
  subst hr;exact wpAny_execs_nil ⟨σ3,H3,I4,qn⟩
 ·refine wpAny_passesOwn hp (Db (T.item X rfl rfl rfl hc i pins s3 σ3 H3 X.xe I3 (stat fr3) st3 go) fun r s4 ⟨u,hr,h4⟩=>?_)
  subst hr;refine wpAny_passesOwn hp (Db h4 fun _ s5 ⟨x,H5,I5,r5,y5,st5,fr5⟩=>?_);have I5':=I5.pinned (stat fr5) (T.obj _ _ st5);refine wpAny_passesOwn hp (Db (hg _ s5 σ3 H5 x u _ I5' r5 (step x H5 y5)) fun _ s6 ⟨σ6,H6,I6,q6⟩=>?_);refine wpAny_passesOwn hp (Db (hb _ s6 σ6 H6 _ I6 q6) fun f s7 q7=>?_);have again:∀ {σ7:St} {H7:Hp},Inv X (pins++Tq fp s5.heap) σ7 H7 s7->N σ7 H7->∃ m,m<n/\∃ i σ' H',Inv X pins σ' H' s7/\tn i s7.heap/\(∀ b∈fp,H' b=none)/\W i m σ' H':=fun {σ7 H7} I7 n7=>by
   obtain⟨m',hm,w7⟩:=hN σ7 H7 n7;refine⟨m',hm,i+1,σ7,H7,I7.unpinned,T.keep _ _ _ st5 fun b hb o e=>(I7.pin (b,o) (zAO _ (zAO _ (Jb hb e)))).1,fun b hb=>?_,w7⟩;obtain⟨o,e,d⟩:=T.obj _ _ st5 b hb;exact (I7.pin (b,o) (zAO _ (zAO _ (Jb hb e)))).2.1
  cases f with
  | next=>obtain⟨σ7,H7,I7,n7⟩:=q7; exact again I7 n7
  | cont=>obtain⟨σ7,H7,I7,n7⟩:=q7; exact again I7 n7
  | brk=>obtain⟨σ7,H7,I7,q7⟩:=q7; exact⟨σ7,H7,I7.unpinned,q7⟩
  | ret v=>obtain⟨x7,σ7,H7,I7,r7,q7⟩:=q7; exact⟨x7,σ7,H7,I7.unpinned,r7,q7⟩
end
theorem Cy {K:zAa} {a:Addr} {xs:List V} {g:TG} {tb:TS} {D:Qy} {σ:St} {H:Hp} (Pv:Nat->St->Hp->Prop) (h0:Pv 0 σ H) (hl:∀ i σ H,i<=xs.length->Pv i σ H->SqL K H a xs)
  (hs:∀ i x σ H,xs[i]?=some x->Pv i σ H->g x σ H fun σ2 H2=>tb { D with nx:=Pv (i+1),ct:=Pv (i+1),bk:=D.nx } σ2 H2) (hd:∀ σ H,Pv xs.length σ H->D.nx σ H) :
  ∃ W:Nat->Nat->St->Hp->Prop,(∃ m,W 0 m σ H)/\∀ i m σ H,W i m σ H ->
   ((KS K a).stop i H/\D.nx σ H)\/((KS K a).go i H/\∃ N:St->Hp->Prop,(∀ σ' H',N σ' H'->∃ m',m'<m/\W (i+1) m' σ' H')/\∀ x H',(KS K a).yld i H x H'->g x σ H' fun σ2 H2=>tb { D with nx:=N,ct:=N,bk:=D.nx } σ2 H2):=by
 refine⟨fun i m σ H=>m=xs.length-i/\i<=xs.length/\Pv i σ H,⟨xs.length,by simp,zAA _,h0⟩,?_⟩;rintro i m σ H ⟨rfl,hi,p⟩;have q:=hl i σ H hi p;by_cases hlt:i<xs.length
 ·refine .inr ⟨⟨xs,xs[i],q,by simp [hlt]⟩,Pv (i+1),fun σ' H' p'=>⟨xs.length-(i+1),by lia,rfl,hlt,p'⟩,fun x H' y=>?_⟩
  obtain⟨e,y⟩:=y;subst e;exact hs i x σ _ (y xs q) p
 ·have e:i=xs.length:=by lia
  subst e;exact .inl ⟨⟨xs,q,zAl _⟩,hd σ H p⟩
theorem Ep {lo:Int} {n:Nat} {g:TG} {tb:TS} {D:Qy} {σ:St} {H:Hp} (Pv:Nat->St->Hp->Prop) (h0:Pv 0 σ H)
  (hs:∀ i σ H,i<n->Pv i σ H->g (.int (lo+i)) σ H fun σ2 H2=>tb { D with nx:=Pv (i+1),ct:=Pv (i+1),bk:=D.nx } σ2 H2) (hd:∀ σ H,Pv n σ H->D.nx σ H) :
  ∃ W:Nat->Nat->St->Hp->Prop,(∃ m,W 0 m σ H)/\∀ i m σ H,W i m σ H ->
   ((KM lo n).stop i H/\D.nx σ H)\/((KM lo n).go i H/\∃ N:St->Hp->Prop,(∀ σ' H',N σ' H'->∃ m',m'<m/\W (i+1) m' σ' H')/\∀ x H',(KM lo n).yld i H x H'->g x σ H' fun σ2 H2=>tb { D with nx:=N,ct:=N,bk:=D.nx } σ2 H2):=by
 refine⟨fun i m σ H=>m=n-i/\i<=n/\Pv i σ H,⟨n,by simp,zAA _,h0⟩,?_⟩;rintro i m σ H ⟨rfl,hi,p⟩;by_cases hlt:i<n
 ·refine .inr ⟨hlt,Pv (i+1),fun σ' H' p'=>⟨n-(i+1),by lia,rfl,hlt,p'⟩,fun x H' y=>?_⟩
  obtain⟨e,y⟩:=y;subst e y;exact hs i σ _ hlt p
 ·have e:i=n:=by lia
  subst e;exact .inl ⟨zAl _,hd σ H p⟩
abbrev R2:=V->V->Hp->VK->Prop
def Lh (X:Cx) (f:Value->Value->Sem Value) (r:R2):Prop:=
 ∀ (pins:List (Addr×Obj)) (s:Shared) (σ:St) (H:Hp) (x y:V) (v u:Value) (Q:VK),Inv X pins σ H s->RelV x v->RelV y u->r x y H Q ->
  wpAny (model X.prog X.w) X.A (f v u) (EP X pins σ Q) X.xe s
def PY (X:Cx) (f:Value->Sem Value) (r:V->Hp->VK->Prop):Prop:=
 ∀ (pins:List (Addr×Obj)) (s:Shared) (σ:St) (H:Hp) (x:V) (v:Value) (Q:VK),Inv X pins σ H s->RelV x v->r x H Q ->
  wpAny (model X.prog X.w) X.A (f v) (EP X pins σ Q) X.xe s
def Gr (X:Cx) (f:Value) (r:List V->Hp->VK->Prop):Prop:=
 ∀ (pins:List (Addr×Obj)) (s:Shared) (σ:St) (H:Hp) (xs:List V) (us:List Value) (Q:VK),Inv X pins σ H s->Vals xs us->r xs H Q ->
  wpAny (model X.prog X.w) X.A (call f us) (EP X pins σ Q) X.xe s
def OA (X:Cx) (r:V->Hp->(Bool->Hp->Prop)->Prop):Prop:=
 ∀ (pins:List (Addr×Obj)) (s:Shared) (σ:St) (H:Hp) (x:V) (v:Value) (Q:Bool->Hp->Prop),Inv X pins σ H s->RelV x v->r x H Q ->
  wpAny (model X.prog X.w) X.A (truthy v) (TP X pins σ Q) X.xe s
def NX (r:R2) (ta tb:TE):TE:=fun σ H Q=>ta σ H fun x H1=>tb σ H1 fun y H2=>r x y H2 Q
def RB (r:V->Hp->VK->Prop) (ta:TE):TE:=fun σ H Q=>ta σ H fun x H1=>r x H1 Q
def rI (C:Int->Int->Prop) (g:Int->Int->V):R2:=fun x y H Q=>∃ i j,x = .int i/\y = .int j/\C i j/\Q (g i j) H
def IS (g:Int->Int->V):R2:=fun x y H Q=>∃ i j,x = .int i/\y = .int j/\Q (g i j) H
def rU (g:Int->V):V->Hp->VK->Prop:=fun x H Q=>∃ i,x = .int i/\Q (g i) H
section
variable {X:Cx} {a b c:Expr} {ta tb tc:TE} {pos:Pos}
theorem KG (ha:PE X a ta) (hb:PE X b tb) {pins:List (Addr×Obj)} {s:Shared} {σ:St} {H:Hp} {R:V->V->Hp->Prop} (I:Inv X pins σ H s)
  (h:ta σ H fun x H1=>tb σ H1 fun y H2=>R x y H2) {Q:Value->Shared->Prop} {f:Value->Value->Sem Value}
  (hf:∀ v u s2 x y H2,Inv X pins σ H2 s2->RelV x v->RelV y u->R x y H2->wpAny (model X.prog X.w) X.A (f v u) Q X.xe s2) :
  wpAny (model X.prog X.w) X.A (eval a X.env) (fun v s₁ => wpAny (model X.prog X.w) X.A (eval b X.env) (fun u s₂ => wpAny (model X.prog X.w) X.A (f v u) Q X.xe s₂) X.xe s₁) X.xe s:=by
 refine Db (ha pins s σ H _ I h) fun v s1 ⟨x,H1,I1,r1,q1⟩=>?_;refine Db (hb pins s1 σ H1 _ I1 q1) fun u s2 ⟨y,H2,I2,r2,q2⟩=>?_;exact hf v u s2 x y H2 I2 r1 r2 q2
theorem Be {op:Operator} {r:R2} (ho:Lh X (binaryOp op) r) (ha:PE X a ta) (hb:PE X b tb):PE X (.BinOp a op b pos) (NX r ta tb):=by
 intro pins s σ H Q I h;exact wpAny_BinOp (KG ha hb I h fun v u s2 x y H2 I2 rx ry q=>ho pins s2 σ H2 x y v u Q I2 rx ry q)
theorem Wj {op:UnaryOp} {r:V->Hp->VK->Prop} (ho:PY X (unaryOp op) r) (ha:PE X a ta):PE X (.UnaryOp op a pos) (RB r ta):=by
 intro pins s σ H Q I h;exact UnaryOp_ (Db (ha pins s σ H _ I h) fun v s1 ⟨x,H1,I1,r1,q1⟩=>ho pins s1 σ H1 x v Q I1 r1 q1)
theorem NV {f:Value->Value->Sem Value} {C:Int->Int->Prop} {g:Int->Int->Int}
  (rule:∀ (i j:Int) (t u:Tok) (s:Shared) (Q:Value->Shared->Prop) (E:Value->Shared->Prop),C i j->Q (.int (g i j) s.toks) { s with toks:=s.toks+1 }->wpAny (model X.prog X.w) X.A (f (.int i t) (.int j u)) Q E s) :
  Lh X f (rI C fun i j=>.int (g i j)):=by
 intro pins s σ H x y v u Q I rx ry h;obtain⟨i,j,rfl,rfl,hc,q⟩:=h;obtain⟨t,rfl⟩:=rx;obtain⟨t',rfl⟩:=ry;exact rule i j t t' s _ _ hc ⟨.int (g i j),H,I.tok _,⟨_,rfl⟩,q⟩
theorem LW {f:Value->Value->Sem Value} {g:Int->Int->Int}
  (rule:∀ (i j:Int) (t u:Tok) (s:Shared) (Q:Value->Shared->Prop) (E:Value->Shared->Prop),Q (.int (g i j) s.toks) { s with toks:=s.toks+1 }->wpAny (model X.prog X.w) X.A (f (.int i t) (.int j u)) Q E s) :
  Lh X f (IS fun i j=>.int (g i j)):=by
 intro pins s σ H x y v u Q I rx ry h;obtain⟨i,j,rfl,rfl,q⟩:=h;obtain⟨t,rfl⟩:=rx;obtain⟨t',rfl⟩:=ry;exact rule i j t t' s _ _ ⟨.int (g i j),H,I.tok _,⟨_,rfl⟩,q⟩
theorem GJ {f:Value->Value->Sem Value} {g:Int->Int->Bool}
  (rule:∀ (i j:Int) (t u:Tok) (s:Shared) (Q:Value->Shared->Prop) (E:Value->Shared->Prop),Q (.bool (g i j)) s->wpAny (model X.prog X.w) X.A (f (.int i t) (.int j u)) Q E s) :
  Lh X f (IS fun i j=>.bl (g i j)):=by
 intro pins s σ H x y v u Q I rx ry h;obtain⟨i,j,rfl,rfl,q⟩:=h;obtain⟨t,rfl⟩:=rx;obtain⟨t',rfl⟩:=ry;exact rule i j t t' s _ _ ⟨.bl (g i j),H,I,rfl,q⟩
def OH (i j:Int):Prop:=0<j/\j<1073741824
def PK (i j:Int):Prop:=0<=j/\j<=1000000/\i.natAbs<2^64
def CMul (i j:Int):Prop:=(-(2^64)<i/\i<2^64)\/(-(2^64)<j/\j<2^64)
theorem CMul.ok {i j:Int} (h:CMul i j):IntMulOk i j:=by
 rcases h with ⟨h1,h2⟩ | ⟨h1,h2⟩
 ·exact .of_left (intBits_le_64 h1 h2)
 ·exact .of_right (intBits_le_64 h1 h2)
theorem Cq:Lh X (binaryOp .Add) (IS fun i j=>.int (i+j)):=LW fun _ _ _ _ _ _ _ q=>add_int q
theorem Ji:Lh X (binaryOp .Sub) (IS fun i j=>.int (i-j)):=LW fun _ _ _ _ _ _ _ q=>sub_int q
theorem Fl:Lh X (binaryOp .Mult) (rI CMul fun i j=>.int (i*j)):=NV fun _ _ _ _ _ _ _ hc q=>mul_int q hc.ok
theorem Ca:Lh X (binaryOp .FloorDiv) (rI OH fun i j=>.int (i/j)):=NV fun i j _ _ _ _ _ hc q=>by
 have h1:(0:Int)<j:=hc.1;have h2:j<1073741824:=hc.2;exact floordiv_int (by lia) (by rw[Int.fdiv_eq_ediv_of_nonneg i (by lia)]; exact q) (.inl (PyProof.noPylong_small (by lia)))
theorem Cb:Lh X (binaryOp .Mod) (rI (fun _ j=>0<j) fun i j=>.int (i%j)):=NV fun i j _ _ _ _ _ hc q=>by
 have h1:(0:Int)<j:=hc;exact mod_int' (by lia) (by rw[Int.fmod_eq_emod_of_nonneg i (by lia)]; exact q)
theorem Yu:Lh X (binaryOp .Pow) (rI PK fun i j=>.int (i^j.toNat)):=NV fun _ _ _ _ _ _ _ hc q=>pow_int_small hc.1 hc.2.1 hc.2.2 q
theorem QY {f:Value->Sem Value} {g:Int->Int}
  (rule:∀ (i:Int) (t:Tok) (s:Shared) (Q:Value->Shared->Prop) (E:Value->Shared->Prop),Q (.int (g i) s.toks) { s with toks:=s.toks+1 }->wpAny (model X.prog X.w) X.A (f (.int i t)) Q E s) :
  PY X f (rU fun i=>.int (g i)):=by
 intro pins s σ H x v Q I rx h;obtain⟨i,rfl,q⟩:=h;obtain⟨t,rfl⟩:=rx;exact rule i t s _ _ ⟨.int (g i),H,I.tok _,⟨_,rfl⟩,q⟩
theorem Pc:PY X (unaryOp .USub) (rU fun i=>.int (-i)):=QY fun _ _ _ _ _ q=>neg_int q
def NR:V->V->Bool
 | .non,.non=>true | .non,.int _=>true | .int _,.non=>true | .non,.bl _=>true | .bl _,.non=>true | .non,.str _=>true | .str _,.non=>true
 | .int _,.int _=>true | .bl _,.bl _=>true | .str _,.str _=>true | .byt _,.byt _=>true
 | .int _,.str _=>true | .str _,.int _=>true | .bl _,.str _=>true | .str _,.bl _=>true
 | _,_=>false
def QX:R2:=fun x y H Q=>NR x y=true/\Q (.bl (decide (x=y))) H
def QO:R2:=fun x y H Q=>NR x y=true/\Q (.bl (!decide (x=y))) H
theorem U5 {i j:Int}:decide (V.int i=V.int j)=(i==j):=by
 rw[Bool.eq_iff_iff];simp
theorem BU {i j:Bool}:decide (V.bl i=V.bl j)=(i==j):=by
 rw[Bool.eq_iff_iff];simp
theorem R8 {i j:Str}:decide (V.str i=V.str j)=(i==j):=by
 rw[Bool.eq_iff_iff];simp
theorem S9 {i j:Array UInt8}:decide (V.byt i=V.byt j)=(i.toList==j.toList):=by
 rw[Bool.eq_iff_iff];cases i;cases j;simp
theorem Cg {pins:List (Addr×Obj)} {σ:St} {H:Hp} {s:Shared} {Q:VK} {k k':Bool} (I:Inv X pins σ H s) (q:Q (.bl k) H) (e:k=k'):EP X pins σ Q (.bool k') s:=by
 subst e;exact⟨.bl k,H,I,rfl,q⟩
theorem Cf:Lh X (compareOp .Eq) QX:=by
 intro pins s σ H x y v u Q I rx ry h;obtain⟨hs,q⟩:=h;cases x with
 | non=>
  cases rx
  cases y with
  | non=>cases ry; exact PySem.EqNone.eq_none_none (Cg I q (by simp))
  | bl j=>cases ry; exact PySem.EqNone.eq_none_bool (Cg I q (by simp))
  | int j=>obtain⟨t',rfl⟩:=ry; exact PySem.EqNone.eq_none_int (Cg I q (by simp))
  | str j=>obtain⟨t',rfl⟩:=ry; exact PySem.EqNone.eq_none_str (Cg I q (by simp))
  | _=>exact absurd (show false=true from hs) zAm
 | bl i=>
  cases rx
  cases y with
  | non=>cases ry; exact PySem.EqNone.eq_bool_none (Cg I q (by simp))
  | bl j=>cases ry; exact eq_bool (Cg I q BU)
  | str j=>obtain⟨t',rfl⟩:=ry; exact PySem.EqMixed.eq_bool_str (Cg I q (by simp))
  | _=>exact absurd (show false=true from hs) zAm
 | int i=>
  obtain⟨t,rfl⟩:=rx;cases y with
  | non=>cases ry; exact PySem.EqNone.eq_int_none (Cg I q (by simp))
  | int j=>obtain⟨t',rfl⟩:=ry; exact eq_int (Cg I q U5)
  | str j=>obtain⟨t',rfl⟩:=ry; exact PySem.EqMixed.eq_int_str (Cg I q (by simp))
  | _=>exact absurd (show false=true from hs) zAm
 | str i=>
  obtain⟨t,rfl⟩:=rx;cases y with
  | non=>cases ry; exact PySem.EqNone.eq_str_none (Cg I q (by simp))
  | bl j=>cases ry; exact PySem.EqMixed.eq_str_bool (Cg I q (by simp))
  | int j=>obtain⟨t',rfl⟩:=ry; exact PySem.EqMixed.eq_str_int (Cg I q (by simp))
  | str j=>obtain⟨t',rfl⟩:=ry; exact eq_str (Cg I q R8)
  | _=>exact absurd (show false=true from hs) zAm
 | byt i=>
  obtain⟨t,rfl⟩:=rx;cases y with
  | byt j=>obtain⟨t',rfl⟩:=ry; exact PySem.W.eq_bytes (Cg I q S9)
  | _=>exact absurd (show false=true from hs) zAm
 | _=>cases y <;> exact absurd (show false=true from hs) zAm
theorem EN:Lh X (compareOp .NotEq) QO:=by
 intro pins s σ H x y v u Q I rx ry h;obtain⟨hs,q⟩:=h;cases x with
 | non=>
  cases rx
  cases y with
  | non=>cases ry; exact PySem.EqNone.ne_none_none (Cg I q (by simp))
  | bl j=>cases ry; exact PySem.EqNone.ne_none_bool (Cg I q (by simp))
  | int j=>obtain⟨t',rfl⟩:=ry; exact PySem.EqNone.ne_none_int (Cg I q (by simp))
  | str j=>obtain⟨t',rfl⟩:=ry; exact PySem.EqNone.ne_none_str (Cg I q (by simp))
  | _=>exact absurd (show false=true from hs) zAm
 | bl i=>
  cases rx
  cases y with
  | non=>cases ry; exact PySem.EqNone.ne_bool_none (Cg I q (by simp))
  | bl j=>cases ry; exact ne_bool (Cg I q (congrArg not BU))
  | str j=>obtain⟨t',rfl⟩:=ry; exact PySem.EqMixed.ne_bool_str (Cg I q (by simp))
  | _=>exact absurd (show false=true from hs) zAm
 | int i=>
  obtain⟨t,rfl⟩:=rx;cases y with
  | non=>cases ry; exact PySem.EqNone.ne_int_none (Cg I q (by simp))
  | int j=>obtain⟨t',rfl⟩:=ry; exact ne_int (Cg I q (congrArg not U5))
  | str j=>obtain⟨t',rfl⟩:=ry; exact PySem.EqMixed.ne_int_str (Cg I q (by simp))
  | _=>exact absurd (show false=true from hs) zAm
 | str i=>
  obtain⟨t,rfl⟩:=rx;cases y with
  | non=>cases ry; exact PySem.EqNone.ne_str_none (Cg I q (by simp))
  | bl j=>cases ry; exact PySem.EqMixed.ne_str_bool (Cg I q (by simp))
  | int j=>obtain⟨t',rfl⟩:=ry; exact PySem.EqMixed.ne_str_int (Cg I q (by simp))
  | str j=>obtain⟨t',rfl⟩:=ry; exact ne_str (Cg I q (congrArg not R8))
  | _=>exact absurd (show false=true from hs) zAm
 | byt i=>
  obtain⟨t,rfl⟩:=rx;cases y with
  | byt j=>obtain⟨t',rfl⟩:=ry; exact PySem.W.ne_bytes (Cg I q (congrArg not S9))
  | _=>exact absurd (show false=true from hs) zAm
 | _=>cases y <;> exact absurd (show false=true from hs) zAm
theorem Gx:Lh X (compareOp .Lt) (IS fun i j=>.bl (decide (i<j))):=GJ fun _ _ _ _ _ _ _ q=>lt_int q
theorem Lr:Lh X (compareOp .LtE) (IS fun i j=>.bl (decide (i<=j))):=GJ fun _ _ _ _ _ _ _ q=>le_int q
theorem Ty:Lh X (compareOp .Gt) (IS fun i j=>.bl (decide (j<i))):=GJ fun _ _ _ _ _ _ _ q=>gt_int q
theorem MV:Lh X (compareOp .GtE) (IS fun i j=>.bl (decide (j<=i))):=GJ fun _ _ _ _ _ _ _ q=>ge_int q
theorem Tp:Lh X (compareOp .Is) (fun x y H Q=>y = .non/\Q (.bl (decide (x = .non))) H):=by
 intro pins s σ H x y v u Q I rx ry h;obtain⟨rfl,q⟩:=h;cases ry;refine is_none_gen (Cg I q ?_);cases x <;> first
  | (cases rx; rfl)
  | (obtain⟨t,rfl⟩:=rx; rfl)
theorem X6:Lh X (compareOp .IsNot) (fun x y H Q=>y = .non/\Q (.bl (!decide (x = .non))) H):=by
 intro pins s σ H x y v u Q I rx ry h;obtain⟨rfl,q⟩:=h;cases ry;refine isnot_none_gen (Cg I q ?_);cases x <;> first
  | (cases rx; rfl)
  | (obtain⟨t,rfl⟩:=rx; rfl)
theorem Bl (b:Expr) {op:CmpOp} (h:op ≠ .In:=by decide) (h2:op ≠ .NotIn:=by decide):behindInMarks op b=false:=by
 have e1:(op==CmpOp.In)=false:=by cases op <;> first | rfl | exact absurd rfl h
 have e2:(op==CmpOp.NotIn)=false:=by cases op <;> first | rfl | exact absurd rfl h2
 cases b <;> simp [behindInMarks,e1,e2]
theorem Dq {op:CmpOp} {r:R2} (ho:Lh X (compareOp op) r) (ha:PE X a ta) (hb:PE X b tb) (hm:behindInMarks op b=false):PE X (.Compare a [op] [b] pos) (NX r ta tb):=by
 intro pins s σ H Q I h;exact wpAny_Compare1 (KG ha hb I h fun v u s2 x y H2 I2 rx ry q=>ho pins s2 σ H2 x y v u Q I2 rx ry q) hm
def NM (t:TE):TT:=fun σ H Q=>t σ H fun x H'=>∃ k,x = .bl k/\Q k H'
theorem Bi {op:CmpOp} {r:R2} (ho:Lh X (compareOp op) r) (ha:PE X a ta) (hb:PE X b tb) (hm:behindInMarks op b=false):PT X (.Compare a [op] [b] pos) (NM (NX r ta tb)):=by
 intro pins s σ H Q I h;refine wpAny_isTrue_Compare1 (Db (ha pins s σ H _ I h) fun v s1 ⟨x,H1,I1,r1,q1⟩=>Db (hb pins s1 σ H1 _ I1 q1) fun u s2 ⟨y,H2,I2,r2,q2⟩=>
  Db (ho pins s2 σ H2 x y v u _ I2 r1 r2 q2) fun c s3 ⟨z,H3,I3,r3,k,e,q3⟩=>?_) hm
 subst e;cases r3;exact wpAny_truthy_bool ⟨H3,I3,q3⟩
def KA (r r':R2) (ta tb tc:TE):TE:=fun σ H Q=>ta σ H fun x H1=>tb σ H1 fun y H2=>r x y H2 fun z H3=>∃ k,z = .bl k /\
 (if k=true then tc σ H3 fun w' H4=>r' y w' H4 Q else Q (.bl false) H3)
theorem Nk {op op':CmpOp} {r r':R2} (ho:Lh X (compareOp op) r) (ho':Lh X (compareOp op') r') (ha:PE X a ta) (hb:PE X b tb) (hc:PE X c tc)
  (hm:lastMarks [op,op'] [b,c]=false:=by with_unfolding_all rfl):PE X (.Compare a [op,op'] [b,c] pos) (KA r r' ta tb tc):=by
 intro pins s σ H Q I h;refine Compare_chain (Db (ha pins s σ H _ I h) fun v s1 ⟨x,H1,I1,r1,q1⟩=>chain_link (Db (hb pins s1 σ H1 _ I1 q1) fun u s2 ⟨y,H2,I2,r2,q2⟩=>
  Db (ho pins s2 σ H2 x y v u _ I2 r1 r2 q2) fun d s3 ⟨z,H3,I3,r3,k,e,q3⟩=>?_)) hm
 subst e;cases r3;refine wpAny_truthy_bool ?_;cases k with
 | false=>exact ite_ff ⟨.bl false,H3,I3,rfl,q3⟩
 | true=>exact ite_tt (chain_last (Db (hc pins s3 σ H3 _ I3 q3) fun w' s4 ⟨z',H4,I4,r4,q4⟩=>ho' pins s4 σ H4 y z' u w' Q I4 r2 r4 q4))
def JP (K:zAa) (x:V) (H:Hp) (k:Bool):Prop:=
 match x with
 | .non=>k=false
 | .bl b=>k=b
 | .int i=>k=(i != 0)
 | .str y=>y.length<=sizeLine/\k=((y.length:Int) != 0)
 | .byt y=>y.size<=sizeLine/\k=((y.size:Int) != 0)
 | .ref p=>(∃ xs,SqL K H p xs/\k = !xs.isEmpty)\/(∃ xs,SqT K H p xs/\k = !xs.isEmpty)\/∃ kvs,H p=some (.dK kvs)/\k = !kvs.isEmpty
 | _=>False
theorem I9 {κ:Type} {kvs:List (κ×V)} {vs:List (κ×Value)} (r:KV kvs vs):(!vs.isEmpty) = !kvs.isEmpty:=by
 cases r <;> rfl
theorem Td {xs:List V} {its:List Value} (r:Vals xs its):(!its.toArray.isEmpty) = !xs.isEmpty:=by
 cases r <;> simp
theorem Mj:(sizeLine:Nat)<2^63:=by rw[zCw]; decide
theorem DZ:OA X (fun x H Q=>∃ k,JP X.K x H k/\Q k H):=by
 intro pins s σ H x v Q I rx h;obtain⟨k,e,q⟩:=h;have hl:=Mj;have hs:sizeLine=16777216:=zCw;cases x with
 | non=>
  cases rx
  have e':k=false:=e;subst e';exact truthy_none ⟨H,I,q⟩
 | bl b=>
  cases rx
  have e':k=b:=e;subst e';exact wpAny_truthy_bool ⟨H,I,q⟩
 | int i=>
  obtain⟨t,rfl⟩:=rx;have e':k=(i != 0):=e;subst e';exact PySem.P.truthy_int ⟨H,I,q⟩
 | str y=>
  obtain⟨t,rfl⟩:=rx;obtain⟨hy,e'⟩:y.length<=sizeLine/\k=((y.length:Int) != 0):=e;subst e';exact PySem.P.truthy_str (by lia) ⟨H,I.tok _,q⟩
 | byt y=>
  obtain⟨t,rfl⟩:=rx;obtain⟨hy,e'⟩:y.size<=sizeLine/\k=((y.size:Int) != 0):=e;subst e';exact PySem.W.truthy_bytes (by lia) ⟨H,I.tok _,q⟩
 | ref p=>
  cases rx
  have e':(∃ xs,SqL X.K H p xs/\k = !xs.isEmpty)\/(∃ xs,SqT X.K H p xs/\k = !xs.isEmpty)\/∃ kvs,H p=some (.dK kvs)/\k = !kvs.isEmpty:=e;rcases e' with ⟨xs,hx,e'⟩ | ⟨xs,hx,e'⟩ | ⟨kvs,hx,e'⟩
  ·subst e'
   obtain⟨its,r,pl,hz⟩:=I.list hx;have hlen:=r.length;exact wpAny_truthy_list pl.isList (by simp only [zAh]; lia) ⟨H,I.tok _,by rw[Td r]; exact q⟩
  ·subst e'
   obtain⟨its,r,pl,hz⟩:=I.tuple hx;have hlen:=r.length;exact truthy_tuple pl (by simp only [zAh]; lia) ⟨H,I.tok _,by rw[Td r]; exact q⟩
  ·subst e'
   obtain⟨hz,hS,vs,r,m⟩:kvs.length<=sizeLine/\(p==sysModules)=false/\∃ vs,KV kvs vs/\s.heap.DictOf (Dl X.prog X.w) p vs:=I.hok p _ hx;have hlen:kvs.length=vs.length:=Paired.length r;exact wpAny_truthy_dict hS m (by lia) ⟨H,I.tok _,by rw[I9 r]; exact q⟩
 | _=>exact (show False from e).elim
theorem MB (ha:PE X a ta) (he:∀ whole,isTrue a X.env whole=(do let v <- whole; standAt a.pos; holding [v] (truthy v))) :
  PT X a (fun σ H Q=>ta σ H fun x H'=>∃ k,JP X.K x H' k/\Q k H'):=by
 intro pins s σ H Q I h;exact isTrue_plain (Db (ha pins s σ H _ I h) fun v s1 ⟨x,H1,I1,r1,q1⟩=>DZ pins s1 σ H1 x v Q I1 r1 q1) (he _)
theorem Ds:Lh X (binaryOp .Add) (fun x y H Q=>∃ i j,x = .str i/\y = .str j/\i.length+j.length<=sizeLine/\Q (.str (i++j)) H):=by
 intro pins s σ H x y v u Q I rx ry h;obtain⟨i,j,rfl,rfl,hz,q⟩:=h;obtain⟨t,rfl⟩:=rx;obtain⟨t',rfl⟩:=ry;exact add_str (fun t' tk=>⟨.str (i++j),H,I.tok _,⟨_,rfl⟩,q⟩) hz
theorem Jm {x:V} {us:List Value} (r:Vals [x] us):∃ u,us=[u]/\RelV x u:=by
 cases r with
 | cons r1 r2=>cases r2; exact⟨_,rfl,r1⟩
theorem FE {x y:V} {us:List Value} (r:Vals [x,y] us):∃ u w',us=[u,w']/\RelV x u/\RelV y w':=by
 cases r with
 | cons r1 r2=>
  cases r2 with
  | cons r3 r4=>cases r4; exact⟨_,_,rfl,r1,r3⟩
theorem Ig (hc:X.calm=true):Gr X (.builtin "max") (fun xs H Q=>∃ i j,xs=[.int i,.int j]/\Q (.int (if j>i then j else i)) H):=by
 intro pins s σ H xs us Q I r h;obtain⟨i,j,rfl,q⟩:=h;obtain⟨u,w',rfl,⟨t,rfl⟩,⟨t',rfl⟩⟩:=FE r;refine max_two_ints (I.ok.hd hc) fun h' tk k=>⟨_,H,I.kept k,?_,q⟩;by_cases hj:j>i
 ·rw[if_pos hj,if_pos hj]; exact⟨_,rfl⟩
 ·rw[if_neg hj,if_neg hj]; exact⟨_,rfl⟩
theorem Ih (hc:X.calm=true):Gr X (.builtin "min") (fun xs H Q=>∃ i j,xs=[.int i,.int j]/\Q (.int (if j<i then j else i)) H):=by
 intro pins s σ H xs us Q I r h;obtain⟨i,j,rfl,q⟩:=h;obtain⟨u,w',rfl,⟨t,rfl⟩,⟨t',rfl⟩⟩:=FE r;refine min_two_ints (I.ok.hd hc) fun h' tk k=>⟨_,H,I.kept k,?_,q⟩;by_cases hj:j<i
 ·rw[if_pos hj,if_pos hj]; exact⟨_,rfl⟩
 ·rw[if_neg hj,if_neg hj]; exact⟨_,rfl⟩
theorem Xa:Gr X (.type "int") (fun xs H Q=>(∃ i,xs=[.int i]/\Q (.int i) H)\/∃ k,xs=[.bl k]/\Q (.int (if k then 1 else 0)) H):=by
 intro pins s σ H xs us Q I r h;rcases h with ⟨i,rfl,q⟩ | ⟨k,rfl,q⟩
 ·obtain⟨u,rfl,t,rfl⟩:=Jm r
  exact call_int_int ⟨.int i,H,I,⟨_,rfl⟩,q⟩
 ·obtain⟨u,rfl,r1⟩:=Jm r
  cases r1
  exact call_int_bool ⟨.int (if k then 1 else 0),H,I.tok _,⟨_,rfl⟩,q⟩
end
structure ObjM (h:Heap) (x dx C:Addr) (mA:Str->Option Value):Prop where
 obj:h.get? x=some (zAZ C dx)
 ns:h.Ns1 dx mA
 ne:dx≠x
set_option tactic.hygienic true in
theorem AW {h:Heap} {dx:Addr} {mA:Str->Option Value} (n:h.Ns1 dx mA):∃ od,h.get? dx=some od/\∀ name,PySem.W.lookIn name od=some (mA name):=by
 obtain⟨o,es,ep,ho,hd,hk,_,hm⟩:=n;refine⟨o,ho,fun name=>?_⟩;have e:=hm name;unfold nsFind findBy at e;rw[<- Array.find?_toList] at e;unfold PySem.W.lookIn;rw[hd]
 dsimp only
 split
 ·rename_i y q
  rw[q] at e;exact congrArg some e
 ·rename_i q
  rw[q] at e;have a:es.toList.any (·.refKey)=false:=by
   rw[List.any_eq_false];intro y hy;obtain⟨z,t,hkey⟩:=hk y (Array.mem_toList_iff.mp hy);simp [DictEntry.refKey,hkey]
  have a':¬ es.toList.any (·.refKey)=true:=by rw[a]; exact zAm
  rw[if_neg a'];exact congrArg some e
theorem ObjM.look {h:Heap} {x dx C:Addr} {mA:Str->Option Value} (I:ObjM h x dx C mA):∃ od,PySem.W.InstAt h x (zAZ C dx) C (some od)/\∀ name,PySem.W.lookIn name od=some (mA name):=
 let ⟨od,ho,hl⟩:=AW I.ns
 ⟨od,⟨I.obj,rfl,rfl,ho⟩,hl⟩
section
variable {prog:Program} {w:World} {A:Around} {E:Value->Shared->Prop} {s:Shared} {K:zAa} {x dx C f:Addr} {mA:Str->Option Value} {name:Str} {v:Value}
theorem GC {expr:Bool} {Q:Value->Shared->Prop} (X:K.In s.heap) (I:ObjM s.heap x dx C mA) (hg:zBZ K C name=true) (hh:zCp K C=true)
  (ha:zAc K (.ref C) name=some none) (hv:mA name=some v) (hv':PySem.W.handedIn v=true) (h:Q v { s with toks:=s.toks+1 }) :
  wpAny (model prog w) A (getAttr (.ref x) name expr) Q E s:=by
 obtain⟨od,J,hl⟩:=I.look;exact PySem.W.get_value X J (PySem.W.plainGet_of hg).1 (PySem.W.findObj_own hh ha rfl (by rw[hl,hv])) hv' h
theorem BG {pl:Sem Bool} {Q:Value×List Value->Shared->Prop} (X:K.In s.heap) (I:ObjM s.heap x dx C mA) (hg:zBZ K C name=true)
  (hf:zAc K (.ref C) name=some (some (.ref f))) (ht:zCm K (.ref f)=true) (hv:mA name=none) (h:Q (.ref f,[.ref x]) s) :
  wpAny (model prog w) A (getMethod (.ref x) name pl) Q E s:=by
 obtain⟨od,J,hl⟩:=I.look;exact PySem.W.method_fn X J (PySem.W.plainGet_of hg).1 (PySem.W.plainGet_of hg).2 hf (beq_iff_eq.mp ht) (by show (PySem.W.lookIn name od).map (·.isSome)=some false; rw[hl,hv]; rfl) h
theorem FX {ns:List Str} {Q:Unit->Shared->Prop} (X:K.In s.heap) (I:ObjM s.heap x dx C mA)
  (hs:zAc K (.ref C) "__setattr__" = some (some (.builtin "object.__setattr__"))) (hp:PySem.W.plainOver K C=true) (ht:PySem.W.takerIn K C name=some none) (hh:zCp K C=true)
  (hw:PySem.Within mA ns) (hsz:ns.length<=sizeLine)
  (h:∀ h',ObjM h' x dx C (fun y=>if y=name then some v else mA y)->zBg dx s.heap h'->Q () { s with heap:=h',toks:=s.toks+2 }) :
  wpAny (model prog w) A (setAttr (.ref x) name v) Q E s:=by
 obtain⟨od,J,hl⟩:=I.look;refine PySem.W.set_plain X J hs (PySem.W.osa_open (s:={ s with toks:=s.toks+1 }) (r:=none) X J hp ht fun b=>?_);obtain⟨cd,hc,hd'⟩:=PySem.W.any_some hh;have hx:s.heap.get? x=some ⟨.ref C,some dx,.plain,#[]⟩:=I.obj;refine zCu (zCv (zCu (zCu (wpAny_loadPart hx (zCu (PySem.W.Looks.here (s:={ s with toks:=s.toks+1 }) (PySem.W.looks_clsIn X hc) ?_))))));rw[hd'];refine zCv (a:=some dx) (zCu (zCv (zCu ?_)));refine wpAny_nsSet1 (s:={ s with toks:=s.toks+1 }) I.ns fun h' hn2 hs2=>?_;obtain⟨oD,esD,epD,hoD,hdD,hcD⟩:=hn2.count (PySem.Within.cons name v hw);refine zCu (wpAny_lookBehind hoD (by rw[hdD]; exact pastItsLine_dict (zAE hcD (by rw[zAg]; lia))) ?_);exact zCv (h _ ⟨(hs2.2 _ (Ne.symm I.ne)).trans I.obj,hn2,I.ne⟩ hs2)
theorem FJ {R:Result->Shared->Prop} {vs:List Value} {kw:List (Str×Value)} (X:K.In s.heap) (hm:zCk K C=true)
  (hi:zAc K (.ref C) "__init__" = some (some (.ref f))) (hf:PySem.W.typeIn K (.ref f)=some (.type "function"))
  (h:codeAny (model prog w) (A.under (.builtin "type.__call__" ⟨.ref C::vs,kw⟩)) (.call (.ref f) ⟨.ref (s.heap.objs.size+1)::vs,kw⟩) (PySem.W.InitBack (s.heap.objs.size+1) R)
   { s with heap:=(s.heap.push zAP).push (zAZ C s.heap.objs.size) }) :
  codeAny (model prog w) A (.call (.ref C) ⟨vs,kw⟩) R s:=by
 obtain⟨hh,g,d,t,os⟩:=s;exact PySem.W.make_core (PySem.W.makes_of X hm) (PySem.W.looks_findIn X hi) (fun self=>PySem.W.bind_fn X self hf) (.inl rfl) h
theorem BB {R:Result->Shared->Prop} (X:K.In s.heap) (hm:zCk K C=true)
  (hi:zAc K (.ref C) "__init__" = some (some (.builtin "object.__init__")))
  (hb:∀ self,PySem.W.Looks (model prog w) s.heap (bindSpecial (.builtin "object.__init__") self) (.builtin "object.__init__",[self]))
  (h:codeAny (model prog w) (A.under (.builtin "type.__call__" ⟨[.ref C],[]⟩)) (.call (.builtin "object.__init__") ⟨[.ref (s.heap.objs.size+1)],[]⟩) (PySem.W.InitBack (s.heap.objs.size+1) R)
   { s with heap:=(s.heap.push zAP).push (zAZ C s.heap.objs.size) }) :
  codeAny (model prog w) A (.call (.ref C) ⟨[],[]⟩) R s:=by
 obtain⟨hh,g,d,t,os⟩:=s;exact PySem.W.make_core (PySem.W.makes_of X hm) (PySem.W.looks_findIn X hi) hb (.inr ⟨rfl,rfl⟩) h
end
def Bv (f:Str) (v:V):List (Str×V)->List (Str×V)
 | []=>[(f,v)]
 | (g,x)::r=>if g=f then (g,v)::r else (g,x)::Bv f v r
theorem Bj (f g:Str) (v:V):∀ fs:List (Str×V),(Bv f v fs).lookup g=if g=f then some v else fs.lookup g
 | []=>by
  show zCi g [(f,v)]=_;by_cases h:g=f
  ·have hb:(g==f)=true:=beq_iff_eq.mpr h
   simp only [zCi,hb,if_pos h]
  ·have hb:(g==f)=false:=beq_eq_false_iff_ne.mpr h
   simp only [zCi,hb,if_neg h]
 | (k,x)::r=>by
  have ih:=Bj f g v r;rw[show Bv f v ((k,x)::r)=(if k=f then (k,v)::r else (k,x)::Bv f v r) from rfl];by_cases hk:k=f
  ·rw[if_pos hk]
   by_cases h:g=k
   ·have hb:(g==k)=true:=beq_iff_eq.mpr h
    simp only [zCi,hb,if_pos (h.trans hk)]
   ·have hb:(g==k)=false:=beq_eq_false_iff_ne.mpr h
    simp only [zCi,hb,if_neg (fun e:g=f=>h (e.trans hk.symm))]
  ·rw[if_neg hk]
   by_cases h:g=k
   ·have hb:(g==k)=true:=beq_iff_eq.mpr h
    simp only [zCi,hb,if_neg (fun e:g=f=>hk (h.symm.trans e))]
   ·have hb:(g==k)=false:=beq_eq_false_iff_ne.mpr h
    simp only [zCi,hb];exact ih
theorem Pd (f:Str) (v:V):∀ fs:List (Str×V),f∈(Bv f v fs).map (·.1)/\∀ g,g∈fs.map (·.1)->g∈(Bv f v fs).map (·.1)
 | []=>⟨by simp [Bv],fun g h=>by simp at h⟩
 | (k,x)::r=>by
  obtain⟨i1,i2⟩:=Pd f v r;rw[show Bv f v ((k,x)::r)=(if k=f then (k,v)::r else (k,x)::Bv f v r) from rfl];by_cases hk:k=f
  ·rw[if_pos hk]
   subst hk;exact⟨by simp,fun g h=>by simpa using h⟩
  ·rw[if_neg hk]
   refine⟨?_,fun g h=>?_⟩
   ·rw[zAK]
    exact zAd _ i1
   ·rw[zAK] at h ⊢
    rcases zAn.mp h with e | e
    ·exact zAn.mpr (.inl e)
    ·exact zAd _ (i2 g e)
theorem Qe (f:Str) (v:V):∀ fs:List (Str×V),(Bv f v fs).length<=fs.length+1
 | []=>by simp [Bv]
 | (k,x)::r=>by
  have ih:=Qe f v r;rw[show Bv f v ((k,x)::r)=(if k=f then (k,v)::r else (k,x)::Bv f v r) from rfl];by_cases hk:k=f
  ·rw[if_pos hk,zAg,zAg]; lia
  ·rw[if_neg hk,zAg,zAg]; lia
theorem RelO.some_of {v:V} {o:Option Value} (r:RelO (some v) o):∃ u,o=some u/\RelV v u:=by
 cases o with
 | none=>exact (show False from r).elim
 | some u=>exact⟨u,rfl,r⟩
theorem RelO.none_of {o:Option Value} (r:RelO none o):o=none:=by
 cases o with
 | none=>rfl
 | some u=>exact (show False from r).elim
theorem AX {v:V} {u:Value} (r:RelV v u):PySem.W.handedIn u=true:=by
 cases v with
 | non=>cases (show u=Value.none from r); rfl
 | bl b=>cases (show u=Value.bool b from r); rfl
 | int i=>obtain⟨t,e⟩:=(show ∃ t,u=Value.int i t from r); cases e; rfl
 | str x=>obtain⟨t,e⟩:=(show ∃ t,u=Value.str x t from r); cases e; rfl
 | byt b=>obtain⟨t,e⟩:=(show ∃ t,u=Value.bytes b t from r); cases e; rfl
 | flt b=>obtain⟨t,e⟩:=(show ∃ t,u=Value.float b t from r); cases e; rfl
 | ref a=>cases (show u=Value.ref a from r); rfl
 | ty n=>cases (show u=Value.type n from r); rfl
section
variable {P:Program} {w:World} {H H':Hp} {h h':Heap} {a C dx:Addr} {fs fs':List (Str×V)}
theorem Re (hok:HOk P w H h) (e:H a=some (.ins C dx fs)):∃ mA,ObjM h a dx C mA/\(∀ f,RelO (fs.lookup f) (mA f))/\PySem.Within mA (fs.map (·.1))/\fs.length<=1000/\H dx=some (.own a):=by
 obtain⟨d,z,ne,ob,mA,n,r,q⟩:=(show ObjOk P w H h a (.ins C dx fs) from hok a _ e);exact⟨mA,⟨ob,n,ne⟩,r,q,z,d⟩
end
structure Cls (K:zAa) (C:Addr):Prop where
 pg:zBZ K C Str.empty=true
 hd:zCp K C=true
 po:PySem.W.plainOver K C=true
 sa:zAc K (.ref C) "__setattr__" = some (some (.builtin "object.__setattr__"))
theorem Cls.get {K:zAa} {C:Addr} (c:Cls K C) (f:Str):zBZ K C f=true:=c.pg
def NoAttr (K:zAa) (C:Addr) (f:Str):Prop:=zAc K (.ref C) f=some none
theorem NoAttr.taker {K:zAa} {C:Addr} {f:Str} (n:NoAttr K C f):PySem.W.takerIn K C f=some none:=by
 unfold PySem.W.takerIn;rw[show zAc K (.ref C) f=some none from n];rfl
structure Em (K:zAa) (C:Addr) (m:Str) (f:Addr):Prop where
 at_:zAc K (.ref C) m=some (some (.ref f))
 fn:zCm K (.ref f)=true
 kp:zAQ K (.ref f)=true
section
variable {X:Cx} {pins:List (Addr×Obj)} {σ:St} {H:Hp} {s:Shared} {a C dx:Addr} {fs:List (Str×V)} {f:Str} {v:V} {A:Around} {E:Value->Shared->Prop}
theorem L4 {b:Bool} {Q:Value->Shared->Prop} (I:Inv X pins σ H s) (e:H a=some (.ins C dx fs)) (c:Cls X.K C) (n:NoAttr X.K C f) (l:fs.lookup f=some v)
  (h:∀ u s',Inv X pins σ H s'->RelV v u->Q u s'):wpAny (model X.prog X.w) A (getAttr (.ref a) f b) Q E s:=by
 obtain⟨mA,O,r,_,_,_⟩:=Re I.hok e;obtain⟨u,hu,ru⟩:=RelO.some_of (v:=v) (o:=mA f) (by rw[<- l]; exact r f);exact GC I.kIn O (c.get f) c.hd n hu (AX ru) (h u _ (I.tok _) ru)
theorem Mb {m:Str} {g:Addr} {pl:Sem Bool} {Q:Value×List Value->Shared->Prop} (I:Inv X pins σ H s) (e:H a=some (.ins C dx fs)) (c:Cls X.K C) (k:Em X.K C m g) (l:fs.lookup m=none)
  (h:Q (.ref g,[.ref a]) s):wpAny (model X.prog X.w) A (getMethod (.ref a) m pl) Q E s:=by
 obtain⟨mA,O,r,_,_,_⟩:=Re I.hok e;have hn:mA m=none:=RelO.none_of (by rw[<- l]; exact r m);exact BG I.kIn O (c.get m) k.at_ k.fn hn h
theorem M5 {y:V} {u:Value} {Q:Unit->Shared->Prop} (I:Inv X pins σ H s) (e:H a=some (.ins C dx fs)) (c:Cls X.K C) (n:NoAttr X.K C f) (hl:fs.length<1000) (ry:RelV y u)
  (h:∀ s',Inv X pins σ (upd H a (.ins C dx (Bv f y fs))) s'->Q () s'):wpAny (model X.prog X.w) A (setAttr (.ref a) f u) Q E s:=by
 obtain⟨mA,O,r,wi,_,ho⟩:=Re I.hok e;have hz:(fs.map (·.1)).length<=sizeLine:=by rw[zAb,zCw]; lia
 refine FX I.kIn O c.sa c.po n.taker c.hd wi hz fun h' O' sb=>h _ ?_;have hd:∃ o,h'.get? dx=some o:=let ⟨o,_,_,e',_⟩:=O'.ns; ⟨o,e'⟩
 refine I.write (x:=a) (e:=dx) (by rw[e]; exact True.intro) (.inr ho) (fun b q hb z=>(sb.2 b hb).trans z) hd ?_;refine⟨by rw[Aw O.ne]; exact ho,?_,O.ne,O'.obj,_,O'.ns,fun g=>?_,fun g hg=>?_⟩
 ·have:=Qe f y fs; lia
 ·show RelO ((Bv f y fs).lookup g) (if g=f then some u else mA g)
  rw[Bj];by_cases q:g=f
  ·rw[if_pos q,if_pos q]; exact ry
  ·rw[if_neg q,if_neg q]; exact r g
 ·by_cases q:g=f
  ·rw[q]; exact (Pd f y fs).1
  ·refine (Pd f y fs).2 g (wi g fun z=>hg ?_)
   show (if g=f then some u else mA g)=none;rw[if_neg q]; exact z
theorem Inv.made (I:Inv X pins σ H s):Inv X pins σ (upd (upd H s.heap.objs.size (.own (s.heap.objs.size+1))) (s.heap.objs.size+1) (.ins C s.heap.objs.size []))
  { s with heap:=(s.heap.push zAP).push (zAZ C s.heap.objs.size) }:=by
 have e1:(s.heap.push zAP).get? s.heap.objs.size=some zAP:=zAy s.heap rfl;have e2:((s.heap.push zAP).push (zAZ C s.heap.objs.size)).get? (s.heap.objs.size+1)=some (zAZ C s.heap.objs.size):=by
  have:=zAy (s.heap.push zAP) (o:=zAZ C s.heap.objs.size) rfl
  rwa [zBy] at this
 have e3:(s.heap.push zAP).Ns s.heap.objs.size (fun _=>none):=⟨zAP,#[],_,e1,rfl,(fun e he=>absurd he (by simp)),fun _=>rfl⟩;have I1:=I.laid (a:=s.heap.objs.size) (o:=.own (s.heap.objs.size+1)) (h':=s.heap.push zAP) (t':=s.toks) (fun b u q=>zAf _ q) (zAl _) ⟨_,e1⟩;refine I1.laid (a:=s.heap.objs.size+1) (o:=.ins C s.heap.objs.size []) (t':=s.toks) (fun b u q=>zAf _ q) (Nat.le_of_eq (zBy _ _)) ?_;have ne:s.heap.objs.size≠s.heap.objs.size+1:=zAu (zBz _);refine⟨by rw[Aw ne,Ac],zAA _,ne,e2,fun _=>none,(Heap.Ns1.of_empty e3).at fun o q=>zAf _ q,fun _=>True.intro,fun y hy=>absurd rfl hy⟩
theorem GI {prog:Program} {w:World} {env:Env} {e:Expr} {f:Str} {pos:Pos} {s:Shared} {Q:Value->Shared->Prop} (hb:attributeBase e f env (eval e env)=eval e env)
  (h:wpAny (model prog w) A (eval e env) (fun o s₁ => wpAny (model prog w) A (getAttr o f true) Q E s₁) E s):wpAny (model prog w) A (eval (.Attribute e f pos) env) Q E s:=
 Attribute_any_ h (by rw[arm_eval_Attribute,hb])
end
def MD (K:zAa) (ta:TE) (f:Str):TE:=fun σ H Q=>ta σ H fun x H1=>∃ a C dx fs v,x = .ref a/\H1 a=some (.ins C dx fs)/\Cls K C/\NoAttr K C f/\fs.lookup f=some v/\Q v H1
def PH (K:zAa) (ta tv:TE) (f:Str):TS:=fun D σ H=>tv σ H fun y H1=>ta σ H1 fun x H2=>∃ a C dx fs,x = .ref a/\H2 a=some (.ins C dx fs)/\Cls K C/\NoAttr K C f/\fs.length<1000 /\
 D.nx σ (upd H2 a (.ins C dx (Bv f y fs)))
section
variable {X:Cx} {o e value:Expr} {f:Str} {pos pos' tpos:Pos} {ta tv:TE}
theorem Cs (he:PE X e ta) (hb:attributeBase e f X.env (eval e X.env)=eval e X.env):PE X (.Attribute e f pos) (MD X.K ta f):=by
 intro pins s σ H Q I h;refine GI hb (Db (he pins s σ H _ I h) fun u s1 ⟨x,H1,I1,rx,a,C,dx,fs,v,ex,ea,c,n,l,q⟩=>?_);subst ex;obtain rfl:u=Value.ref a:=rx;exact L4 I1 ea c n l fun u' s2 I2 ru=>⟨v,H1,I2,ru,q⟩
theorem Dc (ha:PE X o ta) (hv:PE X value tv) (hs:swapsWith value (some (.Attribute o f pos')) pos.line X.env=pure false):PS X (.Assign [.Attribute o f pos'] value pos) (PH X.K ta tv f):=by
 intro pins s σ H D I h;refine plainObj_wpAny_Assign_Attribute (Db (hv pins s σ H _ I h) fun u s1 ⟨y,H1,I1,ry,q⟩=>Db (ha pins s1 σ H1 _ I1 q) fun ov s2 ⟨x,H2,I2,rx,a,C,dx,fs,ex,ea,c,n,l,q2⟩=>?_) hs;subst ex;obtain rfl:ov=Value.ref a:=rx;exact M5 I2 ea c n l ry fun s3 I3=>⟨σ,_,I3,q2⟩
theorem IJ {pl:Sem Bool} {m:Str} {apos:Pos} {args:List Expr} {pins:List (Addr×Obj)} {s:Shared} {σ:St} {H:Hp} {Q:Value->Shared->Prop} {te:TE} (he:PE X e te) (I:Inv X pins σ H s)
  (h:te σ H fun x H1=>∃ a C dx fs g,x = .ref a/\H1 a=some (.ins C dx fs)/\Cls X.K C/\Em X.K C m g/\fs.lookup m=none /\
   ∀ s1,Inv X pins σ H1 s1->wpAny (model X.prog X.w) X.A (callWith pos (.ref g) [.ref a] (backTo pos (starEach args X.env)) (backToKw pos (keywordEach [] X.env))) Q X.xe s1)
  (ht:eval (.Call (.Attribute e m apos) args [] pos) X.env=(do
   let ov <- eval e X.env
   standAt apos.atName
   let (f,first) <- holding [ov] (getMethod ov m pl)
   callWith pos f first (backTo pos (starEach args X.env)) (backToKw pos (keywordEach [] X.env)))) :
  wpAny (model X.prog X.w) X.A (eval (.Call (.Attribute e m apos) args [] pos) X.env) Q X.xe s:=by
 refine zBU (pl:=pl) (Db (he pins s σ H _ I h) fun u s1 ⟨x,H1,I1,rx,a,C,dx,fs,g,ex,ea,c,k,l,q⟩=>?_) ht;subst ex;obtain rfl:u=Value.ref a:=rx;exact Mb I1 ea c k l (q s1 I1)
end
section
variable {X:Cx} {pins:List (Addr×Obj)} {σ:St} {H:Hp} {s:Shared} {A:Around} {E:Value->Shared->Prop} {Q:Value->Shared->Prop} {c:Value} {b:Bool}
inductive Gj (K:zAa) (H:Hp):V->Value->Prop where
 | non:Gj K H .non (.type "NoneType")
 | bl (x:Bool):Gj K H (.bl x) (.type "bool")
 | int (i:Int):Gj K H (.int i) (.type "int")
 | str (x:Str):Gj K H (.str x) (.type "str")
 | flt (x:UInt64):Gj K H (.flt x) (.type "float")
 | lst {a:Addr} {xs:List V} (e:H a=some (.lst xs)):Gj K H (.ref a) (.type "list")
 | frz {a:Addr} {o:Obj} {xs:List V} (e:H a=some (.frz o (.lst xs))):Gj K H (.ref a) (.type "list")
 | tup {a:Addr} {xs:List V} (e:H a=some (.tup xs)):Gj K H (.ref a) (.type "tuple")
 | dK {a:Addr} {kvs:List (Et×V)} (e:H a=some (.dK kvs)):Gj K H (.ref a) (.type "dict")
 | dT {a:Addr} {kvs:List (List Et×V)} (e:H a=some (.dT kvs)):Gj K H (.ref a) (.type "dict")
 | ins {a C dx:Addr} {fs:List (Str×V)} (e:H a=some (.ins C dx fs)) (cl:Cls K C) (ha:zAc K (.ref C) "__class__" = some (some (.builtin "object.__class__")))
   (hn:zCq K (.builtin "object.__class__") "__get__" = some (some (.builtin "getset_descriptor.__get__"))) (htk:PySem.W.takesIn K (.builtin "object.__class__")=some true)
   (hm:zCs K C (.type "object")=some true):Gj K H (.ref a) (.ref C)
theorem AJ {x:V} {u t:Value} (I:Inv X pins σ H s) (rx:RelV x u) (ty:Gj X.K H x t) (e:zAR X.K t c=some b) (h:∀ tk,Q (.bool b) { s with toks:=tk }) :
  wpAny (model X.prog X.w) A (call (.builtin "isinstance") [u,c]) Q E s:=by
 cases ty with
 | non=>cases (show u=Value.none from rx); exact zBf PySem.W.kitx_none I.kIn True.intro e (fun z=>nomatch z) h
 | bl y=>cases (show u=Value.bool y from rx); exact zBf PySem.W.kitx_bool I.kIn True.intro e (fun z=>nomatch z) h
 | int i=>obtain⟨t,q⟩:=(show ∃ t,u=Value.int i t from rx); cases q; exact zBf PySem.W.kitx_int I.kIn True.intro e (fun z=>nomatch z) h
 | str y=>obtain⟨t,q⟩:=(show ∃ t,u=Value.str y t from rx); cases q; exact zBf PySem.W.kitx_str I.kIn True.intro e (fun z=>nomatch z) h
 | flt y=>obtain⟨t,q⟩:=(show ∃ t,u=Value.float y t from rx); cases q; exact zBf PySem.W.kitx_float I.kIn True.intro e (fun z=>nomatch z) h
 | @lst a xs ea=>
  cases (show u=Value.ref a from rx)
  obtain⟨_,_,n,_,h1⟩:=(show ObjOk X.prog X.w H s.heap a (.lst xs) from I.hok a _ ea);exact zBf PySem.W.kitx_list I.kIn ⟨_,h1,rfl⟩ e (fun z=>nomatch z) h
 | @frz a ob xs ea=>
  cases (show u=Value.ref a from rx)
  obtain⟨_,_,_,n,_,h1⟩:=(show ObjOk X.prog X.w H s.heap a (.frz ob (.lst xs)) from I.hok a _ ea);exact zBf PySem.W.kitx_list I.kIn ⟨_,h1,rfl⟩ e (fun z=>nomatch z) h
 | @tup a xs ea=>
  cases (show u=Value.ref a from rx)
  obtain⟨_,_,_,p⟩:=(show ObjOk X.prog X.w H s.heap a (.tup xs) from I.hok a _ ea);obtain⟨o,h1,h2,_⟩:=p;exact zBf PySem.W.kitx_tuple I.kIn ⟨o,h1,h2⟩ e (fun z=>nomatch z) h
 | @dK a kvs ea=>
  cases (show u=Value.ref a from rx)
  obtain⟨_,_,vs,_,p⟩:=(show ObjOk X.prog X.w H s.heap a (.dK kvs) from I.hok a _ ea);obtain⟨o,es,ep,h1,h2,_⟩:=p;exact zBf PySem.W.kitx_dict I.kIn ⟨o,h1,h2.1⟩ e (fun z=>nomatch z) h
 | @dT a kvs ea=>
  cases (show u=Value.ref a from rx)
  obtain⟨_,_,xs,_,o,es,ep,h1,h2,_⟩:=(show ObjOk X.prog X.w H s.heap a (.dT kvs) from I.hok a _ ea);exact zBf PySem.W.kitx_dict I.kIn ⟨o,h1,h2.1⟩ e (fun z=>nomatch z) h
 | @ins a C dx fs ea cl ha hn htk hm=>
  cases (show u=Value.ref a from rx)
  obtain⟨mA,O,_⟩:=Re I.hok ea;obtain⟨od,J,_⟩:=O.look;exact zBf (PySem.W.kitx_own (cl.get _) cl.hd ha hn htk hm) I.kIn J e (fun z=>nomatch z) h
end
structure Room (k:Nat) (A:Around):Prop where
 hd:A.handled=none
 dp:A.depth+3*k+5<recursionLimit
 un:A.units+16*k+200<cLine
theorem Room.mono {j k:Nat} {A:Around} (r:Room k A) (h:j<=k):Room j A:=⟨r.hd,by have:=r.dp; lia,by have:=r.un; lia⟩
theorem Room.deeper {k:Nat} {A:Around} (r:Room (k+1) A) (env:Env):Room k (A.deeper env):=
 ⟨r.hd,by have:=r.dp; show A.depth+1+3*k+5<_; lia,by have:=r.un; show A.units+3+16*k+200<_; lia⟩
theorem L6 {A:Around} {C:Addr} {us:List Value} {kw:List (Str×Value)}:(A.under (.builtin "type.__call__" ⟨.ref C::us,kw⟩)).depth=A.depth+1:=by
 first | rfl | simp [Around.under,Code.weight,Code.isCreation,Code.isGuard,Code.isCaller,Code.frames,Code.isFrame,guardIds]
theorem M1 {A:Around} {C:Addr} {us:List Value} {kw:List (Str×Value)}:(A.under (.builtin "type.__call__" ⟨.ref C::us,kw⟩)).units=A.units+1:=by
 first | rfl | simp [Around.under,Code.cUnits,Code.frames,Code.isFrame]
theorem Room.make {k:Nat} {A:Around} (r:Room (k+1) A) (C:Addr) (us:List Value) (kw:List (Str×Value)):Room k (A.under (.builtin "type.__call__" ⟨.ref C::us,kw⟩)):=
 ⟨r.hd,by have:=r.dp; rw[L6]; lia,by have:=r.un; rw[M1]; lia⟩
theorem Room.depth {k:Nat} {A:Around} (r:Room k A):A.depth<recursionLimit:=by have:=r.dp; lia
theorem Room.units {k:Nat} {A:Around} (r:Room k A):A.units+64<cLine:=by have:=r.un; lia
def LC:TA:=fun _ H Q=>Q [] H
def MN (ta:TE) (tr:TA):TA:=fun σ H Q=>ta σ H fun x H1=>tr σ H1 fun xs H2=>Q (x::xs) H2
section
variable {X:Cx} {e:Expr} {es:List Expr} {te:TE} {t:TA} {pos:Pos}
theorem Ai:PA X [] LC:=fun _ _ _ _ H Q I h=>Calls.spliced_nil ⟨[],H,I,.nil,h⟩
theorem Aa (ha:PE X e te) (hr:PA X es t) (hs:starEach (e::es) X.env=(false,eval e X.env)::starEach es X.env:=by rfl):PA X (e::es) (MN te t):=by
 intro pos pins s σ H Q I h;rw[hs];show wpAny _ _ (spliced ((false,eval e X.env)::backTo pos (starEach es X.env))) _ _ s;refine Calls.spliced_cons (Db (ha pins s σ H _ I h) fun u s1 ⟨x,H1,I1,r1,q1⟩=>?_);exact Db (hr pos pins s1 σ H1 _ I1 q1) fun us s2 ⟨xs,H2,I2,r2,q2⟩=>⟨x::xs,H2,I2,.cons r1 r2,q2⟩
def PP (t:TA):TE:=fun σ H Q=>t σ H fun xs H1=>xs.length<=sizeLine/\∀ p,H1 p=none->Q (.ref p) (upd H1 p (.tup xs))
def OO (t:TA):TE:=fun σ H Q=>t σ H fun xs H1=>xs.length<=sizeLine/\∀ p,H1 p=none->Q (.ref p) (upd H1 p (.lst xs))
theorem Cc {x1} (h:PA X es t):PE X (.Tuple es x1 pos) (PP t):=by
 intro pins s σ H Q I hq;refine wpAny_Tuple_spliced (Db (h pos pins s σ H _ I hq) fun us s1 ⟨xs,H1,I1,r,z,q⟩=>⟨by rw[<- r.length]; exact z,?_⟩);have hf:H1 s1.heap.objs.size=none:=I1.hok.fresh (zAl _);refine⟨.ref s1.heap.objs.size,upd H1 s1.heap.objs.size (.tup xs),I1.laid (t':=s1.toks) (fun b u e=>zAf _ e) (zAl _) ?_,rfl,q _ hf⟩;exact⟨z,us,r,⟨_,zAy _ rfl,rfl,_,rfl⟩⟩
theorem Ce (h:PA X es t):PE X (.List es pos) (OO t):=by
 intro pins s σ H Q I hq;refine wpAny_List_spliced (Db (h pos pins s σ H _ I hq) fun us s1 ⟨xs,H1,I1,r,z,q⟩=>⟨by rw[<- r.length]; exact z,?_⟩);have hf:H1 s1.heap.objs.size=none:=I1.hok.fresh (zAl _);refine⟨.ref s1.heap.objs.size,upd H1 s1.heap.objs.size (.lst xs),I1.laid (t':=s1.toks) (fun b u e=>zAf _ e) (zAl _) ?_,rfl,q _ hf⟩;exact⟨z,us,0,r,zAy _ rfl⟩
end
abbrev Sp:=List V->Hp->VK->XK->Prop
abbrev AV:=List Env->Hp->Shared->XK->Value->Shared->Prop
structure Env0 (P:Program) (w:World) (K:zAa) (mg:Str->Option Value) (base:Heap) (A:Around) (outer:List Env) (s:Shared) (H:Hp):Prop where
 frames:A.frames=some outer
 mod:Mod K mg base
 bs:∀ b o,base.get? b=some o->s.heap.get? b=some o/\H b=none
 bsz:base.objs.size<=s.heap.objs.size
 funs:s.heap.FunFrames base outer
 frf:∀ b∈AD outer,H b=none
 hok:HOk P w H s.heap
 bare:AllBare s.gens
def CE (outer:List Env) (P:Program) (w:World) (H:Hp) (s:Shared) (Q:VK) (u:Value) (s':Shared):Prop:=
 ∃ v H',s'.os=s.os/\AllBare s'.gens/\Un (AD outer) [] H H' s.heap s'.heap/\HOk P w H' s'.heap/\RelV v u/\Q v H'
def CR (CX:AV) (outer:List Env) (P:Program) (w:World) (H:Hp) (s:Shared) (Q:VK) (E:XK) (r:Result) (s':Shared):Prop:=
 match r with
 | .ok (.ret u)=>CE outer P w H s Q u s'
 | .ok _=>False
 | .error e=>CX outer H s E e s'
structure FnOk (P:Program) (w:World) (K:zAa) (mg:Str->Option Value) (base:Heap) (CX:AV) (k:Nat) (f:Addr) (fd:zCy) (ps:List Str) (sp:Sp):Prop where
 len:∀ vs H Q E,sp vs H Q E->vs.length=ps.length
 run:∀ (A:Around) (outer:List Env) (s:Shared) (H:Hp) (args:Args) (us:List Value) (vs:List V) (Q:VK) (E:XK),Room k A->Env0 P w K mg base A outer s H->BindsTo s fd args (ps.zip us)->Vals vs us->sp vs H Q E ->
  codeAny (model P w) A (.call (.ref f) args) (CR CX outer P w H s Q E) s
theorem FnOk.mono {P:Program} {w:World} {K:zAa} {mg:Str->Option Value} {base:Heap} {CX:AV} {j k:Nat} {f:Addr} {fd:zCy} {ps:List Str} {sp:Sp} (F:FnOk P w K mg base CX j f fd ps sp) (h:j<=k) :
  FnOk P w K mg base CX k f fd ps sp:=⟨F.len,fun A outer s H args us vs Q E hr=>F.run A outer s H args us vs Q E (hr.mono h)⟩
theorem Env0.make {P:Program} {w:World} {K:zAa} {mg:Str->Option Value} {base:Heap} {A:Around} {outer:List Env} {s:Shared} {H:Hp} (e:Env0 P w K mg base A outer s H) (C:Addr) (us:List Value) (kw:List (Str×Value)) :
  Env0 P w K mg base (A.under (.builtin "type.__call__" ⟨.ref C::us,kw⟩)) outer s H:=⟨by first | exact e.frames | (simpa [Around.under,Code.envs,Code.isFrame,pushEnvs] using e.frames),e.mod,e.bs,e.bsz,e.funs,e.frf,e.hok,e.bare⟩
section
variable {X:Cx} {pins:List (Addr×Obj)} {σ:St} {H:Hp} {s s':Shared}
theorem Inv.env0 (I:Inv X pins σ H s):Env0 X.prog X.w X.K X.mg X.base X.A X.stack s H:=
 ⟨I.ok.frames,I.ok.mod,I.bs,zAE I.ok.bsz I.sz,I.stack,I.stkFree,I.hok,I.bare⟩
theorem Inv.after {Q:VK} {u:Value} (I:Inv X pins σ H s) (h:CE X.stack X.prog X.w H s Q u s'):EP X pins σ Q u s':=by
 obtain⟨v,H',os,bare,un,hok,r,q⟩:=h;obtain⟨hh,g,d,t,os'⟩:=s';obtain rfl:os'=s.os:=os;exact⟨v,H',I.call (h':=hh) (g':=g) (d':=d) (t':=t) (ch:=[]) un hok bare (fun b z=>absurd z (by simp)),r,q⟩
end
def V7 (sp:Sp) (dvs:List V) (E:XK) (t:TA):TE:=fun σ H Q=>t σ H fun vs H1=>sp (vs++dvs) H1 Q E
def IH (C:Addr) (m:Str) (sp:Sp) (dvs:List V) (E:XK) (ta:TE) (t:TA):TE:=fun σ H Q=>ta σ H fun x H1=>∃ a dx fs,x = .ref a/\H1 a=some (.ins C dx fs)/\fs.lookup m=none /\
 t σ H1 fun vs H2=>sp (x::(vs++dvs)) H2 Q E
def R7 (C:Addr) (sp:Sp) (dvs:List V) (E:XK) (t:TA):TE:=fun σ H Q=>t σ H fun vs H1=>∀ x dx,H1 x=none->H1 dx=none->dx≠x ->
 sp (.ref x::(vs++dvs)) (upd (upd H1 dx (.own x)) x (.ins C dx [])) (fun v H2=>v = .non/\Q (.ref x) H2) E
def Binds (K:zAa) (fd:zCy) (ps:List Str) (ds:List Value):Prop:=
 ∀ (s:Shared) (us:List Value),K.In s.heap->(us++ds).length=ps.length->BindsTo s fd ⟨us,[]⟩ (ps.zip (us++ds))
theorem Binds.all {K:zAa} {fd:zCy} {ps:List Str} (h:∀ us:List Value,us.length=ps.length->bindArgs fd ⟨us,[]⟩=pure (ps.zip us)):Binds K fd ps []:=fun s us _ hl=>by
 rw[zAU] at hl ⊢;exact .of_eq (h us hl)
def Mp (CX:AV) (X:Cx) (E:XK):Prop:=∀ (pins:List (Addr×Obj)) (σ:St) (H:Hp) (s:Shared) (e:Value) (s':Shared),Inv X pins σ H s->CX X.stack H s E e s'->X.xe e s'
section
variable {X:Cx} {CX:AV} {k:Nat} {f C:Addr} {fd:zCy} {ps:List Str} {sp:Sp} {dvs:List V} {ds:List Value} {E:XK} {x m:Str} {p pos apos:Pos} {e o:Expr} {es:List Expr} {ta:TE} {t:TA}
theorem Zn {pins:List (Addr×Obj)} {σ:St} {H:Hp} {s:Shared} {Q:VK} {us:List Value} {vs:List V} (F:FnOk X.prog X.w X.K X.mg X.base CX k f fd ps sp) (hr:Room k X.A) (hb:Binds X.K fd ps ds) (hd:Vals dvs ds) (hx:Mp CX X E)
  (I:Inv X pins σ H s) (r:Vals vs us) (h:sp (vs++dvs) H Q E):wpAny (model X.prog X.w) X.A (call (.ref f) us) (EP X pins σ Q) X.xe s:=by
 have r2:Vals (vs++dvs) (us++ds):=r.append hd;have hl:(us++ds).length=ps.length:=by rw[<- r2.length]; exact F.len _ _ _ _ h
 refine wpAny_call (codeAny_mono (F.run X.A X.stack s H ⟨us,[]⟩ (us++ds) (vs++dvs) Q E hr I.env0 (hb s us I.kIn hl) r2 h) fun r s' hq=>?_);cases r with
 | error e=>exact hx pins σ H s e s' I hq
 | ok fl=>
  cases fl with
  | ret u=>exact I.after hq
  | next=>exact False.elim hq
  | brk=>exact False.elim hq
  | cont=>exact False.elim hq
theorem GB (F:FnOk X.prog X.w X.K X.mg X.base CX k f fd ps sp) (hr:Room k X.A) (hg:Gl X x) (hm:X.mg x=some (.ref f)) (hk:zAQ X.K (.ref f)=true) (hb:Binds X.K fd ps ds) (hd:Vals dvs ds) (hx:Mp CX X E)
  (ha:PA X (e::es) t) (hdb:(x==("__debug__" : Str))=false:=by decide) (he:starEach (e::es) X.env=(false,eval e X.env)::starEach es X.env:=by rfl) (hpl:(backTo pos (starEach es X.env)).any (·.1)=false:=by rfl) :
  PE X (.Call (.Name x p) (e::es) [] pos) (V7 sp dvs E t):=by
 intro pins s σ H Q I h;refine wpAny_Call_Name_kw (Hc I hg hm ?_ hdb);refine zBC (h₀ := X.base) I.ok.mod.kin hk (Db (ha pos pins s σ H _ I h) fun us s1 ⟨vs,H1,I1,r,q⟩=>⟨I1.kIn,?_⟩) he hpl;exact Zn F hr hb hd hx I1 r q
theorem GE {pl:Sem Bool} (he:PE X o ta) (c:Cls X.K C) (hm:Em X.K C m f) (F:FnOk X.prog X.w X.K X.mg X.base CX k f fd ps sp) (hr:Room k X.A) (hb:Binds X.K fd ps ds) (hd:Vals dvs ds) (hx:Mp CX X E) (ha:PA X (e::es) t)
  (hst:starEach (e::es) X.env=(false,eval e X.env)::starEach es X.env:=by rfl) (hpl:(backTo pos (starEach es X.env)).any (·.1)=false:=by rfl)
  (ht:eval (.Call (.Attribute o m apos) (e::es) [] pos) X.env=(do
   let ov <- eval o X.env
   standAt apos.atName
   let (f,first) <- holding [ov] (getMethod ov m pl)
   callWith pos f first (backTo pos (starEach (e::es) X.env)) (backToKw pos (keywordEach [] X.env))):=by rfl) :
  PE X (.Call (.Attribute o m apos) (e::es) [] pos) (IH C m sp dvs E ta t):=by
 intro pins s σ H Q I h;refine zBU (pl:=pl) (Db (he pins s σ H _ I h) fun u s1 ⟨x,H1,I1,rx,a,dx,fs,ex,ea,l,q⟩=>?_) ht;subst ex;obtain rfl:u=Value.ref a:=rx;refine Mb I1 ea c hm l ?_;refine zBC (first:=[.ref a]) (h₀ := X.base) I.ok.mod.kin hm.kp (Db (ha pos pins s1 σ H1 _ I1 q) fun us s2 ⟨vs,H2,I2,r,q2⟩=>⟨I2.kIn,?_⟩) hst hpl;exact Zn (us:=.ref a::us) (vs:=.ref a::vs) F hr hb hd hx I2 (.cons rfl r) q2
structure Mk (K:zAa) (C f:Addr):Prop where
 makes:zCk K C=true
 init:zAc K (.ref C) "__init__" = some (some (.ref f))
 fn:zCm K (.ref f)=true
 kp:zAQ K (.ref C)=true
theorem A5 {pins:List (Addr×Obj)} {σ:St} {H:Hp} {s:Shared} {Q:VK} {us:List Value} {vs:List V} (M:Mk X.K C f) (F:FnOk X.prog X.w X.K X.mg X.base CX k f fd ps sp) (hr:Room (k+1) X.A) (hb:Binds X.K fd ps ds) (hd:Vals dvs ds)
  (hx:Mp CX X E) (I:Inv X pins σ H s) (r:Vals vs us)
  (h:∀ x dx,H x=none->H dx=none->dx≠x->sp (.ref x::(vs++dvs)) (upd (upd H dx (.own x)) x (.ins C dx [])) (fun v H2=>v = .non/\Q (.ref x) H2) E) :
  wpAny (model X.prog X.w) X.A (call (.ref C) us) (EP X pins σ Q) X.xe s:=by
 have hq:=h (s.heap.objs.size+1) s.heap.objs.size (I.hok.fresh (zBh _)) (I.hok.fresh (zAl _)) (zAu (zBz _));have I2:=Inv.made (C:=C) I;have r2:Vals (V.ref (s.heap.objs.size+1)::(vs++dvs)) (Value.ref (s.heap.objs.size+1)::(us++ds)):=.cons rfl (r.append hd);have hl:(Value.ref (s.heap.objs.size+1)::us++ds).length=ps.length:=by
  have e:=r2.length;rw[F.len _ _ _ _ hq] at e;exact e.symm
 refine wpAny_call (FJ (f:=f) I.kIn M.makes M.init (beq_iff_eq.mp M.fn) (codeAny_mono (F.run _ X.stack _ _ ⟨Value.ref (s.heap.objs.size+1)::us,[]⟩ (Value.ref (s.heap.objs.size+1)::(us++ds)) _ _ E (hr.make C us [])
  (I2.env0.make C us []) (hb _ (Value.ref (s.heap.objs.size+1)::us) I2.kIn hl) r2 hq) fun r s' hq'=>?_))
 cases r with
 | error e=>exact hx pins σ _ _ e s' I2 hq'
 | ok fl=>
  cases fl with
  | ret u=>
   obtain⟨v,H',I3,rv,ev,q3⟩:=I2.after hq';subst ev;exact⟨rv,⟨V.ref (s.heap.objs.size+1),H',I3,rfl,q3⟩⟩
  | next=>exact False.elim hq'
  | brk=>exact False.elim hq'
  | cont=>exact False.elim hq'
theorem HD (M:Mk X.K C f) (F:FnOk X.prog X.w X.K X.mg X.base CX k f fd ps sp) (hr:Room (k+1) X.A) (hg:Gl X x) (hm:X.mg x=some (.ref C)) (hb:Binds X.K fd ps ds) (hd:Vals dvs ds) (hx:Mp CX X E)
  (ha:PA X (e::es) t) (hdb:(x==("__debug__" : Str))=false:=by decide) (he:starEach (e::es) X.env=(false,eval e X.env)::starEach es X.env:=by rfl) (hpl:(backTo pos (starEach es X.env)).any (·.1)=false:=by rfl) :
  PE X (.Call (.Name x p) (e::es) [] pos) (R7 C sp dvs E t):=by
 intro pins s σ H Q I h;refine wpAny_Call_Name_kw (Hc I hg hm ?_ hdb);refine zBC (h₀ := X.base) I.ok.mod.kin M.kp (Db (ha pos pins s σ H _ I h) fun us s1 ⟨vs,H1,I1,r,q⟩=>⟨I1.kIn,?_⟩) he hpl;exact A5 M F hr hb hd hx I1 r q
theorem BX (M:Mk X.K C f) (F:FnOk X.prog X.w X.K X.mg X.base CX k f fd ps sp) (hr:Room (k+1) X.A) (hg:Gl X x) (hm:X.mg x=some (.ref C)) (hb:Binds X.K fd ps ds) (hd:Vals dvs ds) (hx:Mp CX X E)
  (hdb:(x==("__debug__" : Str))=false:=by decide):PE X (.Call (.Name x p) [] [] pos) (R7 C sp dvs E LC):=by
 intro pins s σ H Q I h;refine wpAny_Call_Name_kw (Hc I hg hm ?_ hdb);exact PySem.W.callWith_K0 I.kIn M.kp (A5 (us:=[]) M F hr hb hd hx I .nil h)
end
section
variable {X:Cx} {CX:AV} {k:Nat} {f C:Addr} {fd:zCy} {ps ks:List Str} {sp:Sp} {E:XK} {x m:Str} {p pos apos kpos:Pos} {e o:Expr} {es:List Expr} {kws:List Keyword} {te ta:TE} {t tk:TA} {nm:Option Str}
variable {g:List Value->List Value->List Value} {gV:List V->List V->List V}
end
structure Bd (N P:List Str) (sc:Scope):Prop where
 kind:sc.kind = .function
 co:sc.isCoroutine=false
 gen:sc.isGenerator=false
 nd:N.Nodup
 pre:N.take P.length=P
 par:∀ x∈P,sc.names.lookup x=some .local\/sc.names.lookup x=some .cell
 nofree:∀ y∈sc.names,y.2 ≠ .free
theorem Wx {kindOf:Str->Option NameKind} {x:Str}:∀ {binds:List (Str×Value)} {m:Str->Option Value},(∀ v,(x,v)∉binds)->bindL kindOf binds m x=m x
 | [],_,_=>rfl
 | (n,v)::r,m,h=>by
  unfold bindL;rw[Wx fun w hw=>h w (zAd _ hw)]
  split
  ·have:x≠n:=by rintro rfl; exact h v zAk
   simp [this]
  ·rfl
theorem Ws {kindOf:Str->Option NameKind} {x:Str}:∀ {binds:List (Str×Value)} {m:Str->Option Value},(∀ v,(x,v)∉binds)->bindC kindOf binds m x=m x
 | [],_,_=>rfl
 | (n,v)::r,m,h=>by
  unfold bindC;rw[Ws fun w hw=>h w (zAd _ hw)]
  split
  ·rfl
  ·have:x≠n:=by rintro rfl; exact h v zAk
   simp [this]
theorem Vx {kindOf:Str->Option NameKind} {x:Str} {v:Value}:∀ {P:List Str} {vs:List Value} {i:Nat} {m:Str->Option Value},P.Nodup->P[i]?=some x->vs[i]?=some v->kindOf x=some .local ->
  bindL kindOf (P.zip vs) m x=some v
 | [],_,_,_,_,h,_,_=>by simp at h
 | _::_,[],_,_,_,_,h,_=>by simp at h
 | p::P,w::vs,0,m,nd,h1,h2,hk=>by
  simp at h1 h2; subst h1; subst h2;show bindL kindOf ((p,w)::P.zip vs) m p=_;unfold bindL;rw[Wx fun v hv=>(zAW.mp nd).1 (List.of_mem_zip hv).1,if_pos hk];simp
 | p::P,w::vs,i+1,m,nd,h1,h2,hk=>by
  show bindL kindOf ((p,w)::P.zip vs) m x=_;unfold bindL;exact Vx (i:=i) (zAW.mp nd).2 (by simpa using h1) (by simpa using h2) hk
theorem Wv {kindOf:Str->Option NameKind} {x:Str} {v:Value}:∀ {P:List Str} {vs:List Value} {i:Nat} {m:Str->Option Value},P.Nodup->P[i]?=some x->vs[i]?=some v->kindOf x≠some .local ->
  bindC kindOf (P.zip vs) m x=some v
 | [],_,_,_,_,h,_,_=>by simp at h
 | _::_,[],_,_,_,_,h,_=>by simp at h
 | p::P,w::vs,0,m,nd,h1,h2,hk=>by
  simp at h1 h2; subst h1; subst h2;show bindC kindOf ((p,w)::P.zip vs) m p=_;unfold bindC;rw[Ws fun v hv=>(zAW.mp nd).1 (List.of_mem_zip hv).1,if_neg hk];simp
 | p::P,w::vs,i+1,m,nd,h1,h2,hk=>by
  show bindC kindOf ((p,w)::P.zip vs) m x=_;unfold bindC;exact Wv (i:=i) (zAW.mp nd).2 (by simpa using h1) (by simpa using h2) hk
def Nz (N:List Str) (vs:List V):St:=vs.map some++zAH (N.length-vs.length) none
def Q0 (CX:AV) (P:Program) (w:World) (K:zAa) (mg:Str->Option Value) (base:Heap) (N:List Str) (qual:Str) (scope:Scope) (f:Addr) (cd:Value) (A:Around) (outer:List Env) (s:Shared) (H:Hp) (E:XK):Cx where
 prog:=P
 w:=w
 K:=K
 mg:=mg
 base:=base
 A:=A.deeper (envOfC qual scope s.heap.objs.size f cd)
 N:=N
 s₀ := s
 H₀ := H
 env:=envOfC qual scope s.heap.objs.size f cd
 outer:=outer
 stack:=envOfC qual scope s.heap.objs.size f cd::outer
 ex:=[]
 calm:=true
 fn:=fun _=>true
 pn:=[]
 xe:=fun e s'=>wpAny (model P w) (A.deeper (envOfC qual scope s.heap.objs.size f cd)) (leaving (envOfC qual scope s.heap.objs.size f cd) e) (fun _ s''=>CX outer H s E e s'') (fun e' s''=>CX outer H s E e' s'') s'
theorem A1 {sc:Scope} {n:Nat} {x:Str} (h:sc.names.lookup x=some .cell):∃ c,(cellsFrom n sc.names []).lookup x=some c:=by
 have q:=PySem.W.cellsFrom_some sc.names n [] (.inl h);exact Option.isSome_iff_exists.mp q
theorem AN {CX:AV} {P:Program} {w:World} {K:zAa} {mg:Str->Option Value} {base:Heap} {N ps:List Str} {qual:Str} {scope:Scope} {f:Addr} {cd:Value} {A:Around} {outer:List Env} {s s1:Shared} {H:Hp} {E:XK} {us:List Value} {vs:List V}
  (S:Bd N ps scope) (hd:A.handled=none) (e0:Env0 P w K mg base A outer s H) (hl:vs.length=ps.length) (r:Vals vs us)
  (x:InCallC s s.heap.objs.size (bindL (envOfC qual scope s.heap.objs.size f cd).kindOf (ps.zip us) fun _=>none) (cellsFrom (s.heap.objs.size+1) scope.names []) (bindC (envOfC qual scope s.heap.objs.size f cd).kindOf (ps.zip us) fun _=>none) s1) :
  Inv (Q0 CX P w K mg base N qual scope f cd A outer s H E) [] (Nz N vs) H s1:=by
 have hpl:ps.length<=N.length:=by have:=congrArg List.length S.pre; rw[zAt] at this; lia
 obtain⟨h1,tk,rfl,hk⟩:=x.done;have noA:∀ b:Addr,b∉(Q0 CX P w K mg base N qual scope f cd A outer s H E).ex:=fun b z=>absurd (show b∈([]:List Addr) from z) (by simp);refine⟨⟨e0.mod,S.kind,rfl,rfl,zAl _,fun y z c h1 h2=>?_,fun y hy=>?_,fun y c _ h=>?_,fun _=>hd,Around.frames_deeper e0.frames,.inr ⟨rfl,rfl⟩,fun b z=>absurd z (noA b),e0.bs,e0.bsz,fun b _ _=>noA b,fun b z=>absurd z (noA b),e0.funs,e0.frf⟩,
  rfl,e0.bare,Un.kept hk,⟨_,x.toInCall.ns,fun i y v h1 h2 h3=>?_⟩,fun y c h=>⟨_,x.cell y c h⟩,e0.hok.fresh (zAl _),fun y c h=>?_,fun p hp=>absurd (show p∈([]:List (Addr×Obj)) from hp) (by simp),e0.hok.kept hk,?_⟩
 ·exact name_of_addr x.apart (PySem.mem_of_lookup h1) (PySem.mem_of_lookup h2)
 ·have hy:scope.names.lookup y=some .cell\/scope.names.lookup y=some .free:=hy
  rcases hy with hy | hy
  ·exact A1 hy
  ·exact absurd rfl (S.nofree _ (PySem.mem_of_lookup hy))
 ·exact Nat.le_of_lt (x.above y c (PySem.mem_of_lookup h))
 ·have hi:i<vs.length:=by
   unfold Nz at h2;by_cases hi:i<vs.length
   ·exact hi
   ·rw[zCf (by simpa using hi)] at h2
    rw[List.getElem?_replicate] at h2
    split at h2 <;> cases h2
  have ha:vs[i]?=some v:=by
   unfold Nz at h2;rw[List.getElem?_append_left (by simpa using hi),zAs] at h2;cases e:vs[i]? with
   | none=>rw[e] at h2; cases h2
   | some a=>rw[e] at h2; cases h2; rfl
  obtain⟨u,hu,rv⟩:=r.get ha;have hp:ps[i]?=some y:=by
   rw[<- S.pre,List.getElem?_take_of_lt (by lia)]; exact h1
  have ndP:ps.Nodup:=by rw[<- S.pre]; exact S.nd.sublist (List.take_sublist _ _)
  refine⟨u,rv,?_⟩;rcases S.par y (zAB hp) with k | k
  ·exact .inl ⟨k,Vx ndP hp hu k⟩
  ·obtain⟨c,e⟩:=A1 (n:=s.heap.objs.size+1) k
   refine .inr ⟨.inl k,c,e,?_⟩;have q:=x.cell y c e;rw[Wv ndP hp hu (by show scope.names.lookup y≠_; rw[k]; decide)] at q;exact q
 ·exact e0.hok.fresh (Nat.le_of_lt (x.above y c (PySem.mem_of_lookup h)))
 ·unfold Nz
  show _=N.length;rw[zAi,zAb,zBe]
  lia
theorem IY {CX:AV} {P:Program} {w:World} {K:zAa} {mg:Str->Option Value} {base:Heap} {k:Nat} {f:Addr} {name qual:Str} {params:Arguments} {body:List Stmt} {scope:Scope} {dV kV doc pm cdv ct oc:Value} {an od:Option Addr}
  {osl:Array (Option Value)} {N ps:List Str} {sp:Sp} (lk:K.lookup f=some ⟨oc,od,.func (zAV name qual params body scope dV kV doc pm an cdv ct),osl⟩) (hcd:zBm K cdv qual=true) (S:Bd N ps scope)
  (len:∀ vs H Q E,sp vs H Q E->vs.length=ps.length)
  (hbody:∀ (A:Around) (outer:List Env) (s:Shared) (H:Hp) (vs:List V) (Q:VK) (E:XK),Room k (A.deeper (envOfC qual scope s.heap.objs.size f cdv))->sp vs H Q E ->
   ∃ t,PSs (Q0 CX P w K mg base N qual scope f cdv A outer s H E) body t/\t { nx:=fun _ H'=>Q .non H',rt:=Q } (Nz N vs) H) :
  FnOk P w K mg base CX (k+1) f (zAV name qual params body scope dV kV doc pm an cdv ct) ps sp:=by
 refine⟨len,fun A outer s H args us vs Q E hr e0 hb r hsp=>?_⟩;have hl:=len _ _ _ _ hsp;have KX:K.In s.heap:=e0.mod.kin.keeps fun b o e=>(e0.bs b o e).1;have lim:s.heap.NoLimit:=e0.mod.nolimit.keeps fun b o e=>(e0.bs b o e).1;have hkind:∀ y∈ps.zip us,scope.names.lookup y.1=some .local\/(scope.names.lookup y.1=some .cell/\((cellsFrom (s.heap.objs.size+1) scope.names []).lookup y.1).isSome=true):=fun ⟨n,v⟩ hy=>by
  rcases S.par n (List.of_mem_zip hy).1 with q | q
  ·exact .inl q
  ·exact .inr ⟨q,PySem.W.cellsFrom_some _ _ _ (.inl q)⟩
 refine codeAny_call_function hr.depth (KX _ _ lk) rfl S.co S.gen rfl (PySem.W.codeRec_of KX hcd) (hb _ _ _ _ ?_);refine wpAny_newFunctionEnv_cells S.kind hkind fun env he s1 x=>?_;subst he;refine⟨lim.keeps x.toInCall.keep,codeAny_func ?_⟩;obtain⟨t,ht,hq⟩:=hbody A outer s H vs Q E (hr.deeper _) hsp;have I:Inv (Q0 CX P w K mg base N qual scope f cdv A outer s H E) [] (Nz N vs) H s1:=AN S hr.hd e0 hl r x;refine wpAny_mono (ht [] s1 (Nz N vs) H _ I hq) (fun fl s' hs=>?_) fun e s' hs=>hs;have fin:∀ {σ':St} {H':Hp} {v:V} {u:Value},Inv (Q0 CX P w K mg base N qual scope f cdv A outer s H E) [] σ' H' s'->RelV v u->Q v H'->CE outer P w H s Q u s':=
  fun {σ' H' v u} J rv q=>⟨v,H',J.os,J.bare,J.base,J.hok,rv,q⟩
 cases fl with
 | ret u=>
  obtain⟨v,σ',H',J,rv,q⟩:=hs;exact fin J rv q
 | next=>
  obtain⟨σ',H',J,q⟩:=hs;exact fin (v:=V.non) (u:=Value.none) J rfl q
 | brk=>
  obtain⟨_,_,_,q⟩:=hs;exact False.elim q
 | cont=>
  obtain⟨_,_,_,q⟩:=hs;exact False.elim q
section
variable {X:Cx} {x:Str} {p pos:Pos} {e:Expr} {es:List Expr} {t:TA} {id T:String} {r:List V->Hp->VK->Prop}
def QG (r:List V->Hp->VK->Prop) (t:TA):TE:=fun σ H Q=>t σ H fun vs H1=>r vs H1 Q
theorem Bo (hc:Gr X (.builtin id) r) (hg:Gl X x) (hm:X.mg x=none) (hv:zCx x=some (.builtin id)) (ha:PA X (e::es) t) (hn:x ≠ "__name__" := by decide) (hdb:(x==("__debug__" : Str))=false:=by decide)
  (he:starEach (e::es) X.env=(false,eval e X.env)::starEach es X.env:=by rfl) (hpl:(backTo pos (starEach es X.env)).any (·.1)=false:=by rfl):PE X (.Call (.Name x p) (e::es) [] pos) (QG r t):=by
 intro pins s σ H Q I h;refine wpAny_Call_Name_kw (Hv I hg hm hv ?_ hn hdb);exact PyProof.Rows.callWith_builtin1 (Db (ha pos pins s σ H _ I h) fun us s1 ⟨vs,H1,I1,r1,q1⟩=>hc pins s1 σ H1 vs us Q I1 r1 q1) he hpl
theorem Ec (hc:Gr X (.type T) r) (hg:Gl X x) (hm:X.mg x=none) (hv:zCx x=some (.type T)) (ha:PA X (e::es) t) (hn:x ≠ "__name__" := by decide) (hdb:(x==("__debug__" : Str))=false:=by decide)
  (he:starEach (e::es) X.env=(false,eval e X.env)::starEach es X.env:=by rfl) (hpl:(backTo pos (starEach es X.env)).any (·.1)=false:=by rfl):PE X (.Call (.Name x p) (e::es) [] pos) (QG r t):=by
 intro pins s σ H Q I h;refine wpAny_Call_Name_kw (Hv I hg hm hv ?_ hn hdb);exact PyProof.Rows.callWith_type1 (Db (ha pos pins s σ H _ I h) fun us s1 ⟨vs,H1,I1,r1,q1⟩=>hc pins s1 σ H1 vs us Q I1 r1 q1) he hpl
end
end L2
namespace HT
open PySem PyProof.Rows
def lexLt:List Int->List Int->Bool
 | [],[]=>false
 | [],_::_=>true
 | _::_,[]=>false
 | x::xs,y::ys=>if x=y then lexLt xs ys else decide (x<y)
theorem lexLt_cons (x y:Int) (xs ys:List Int):lexLt (x::xs) (y::ys)=if x=y then lexLt xs ys else decide (x<y):=rfl
section
open PySem.SeqAt
open PySem.AutoSeq1 (wpAny_loadPart')
open PySem.MeetsSeq PySem.MeetsSeq2 PySem.MeetsSeq3
end
section
variable {prog:Program} {w:World} {A:Around} {E:Value->Shared->Prop} {s:Shared}
def sIx (n d:Nat):Option Int->Nat
 | none=>d
 | some v=>if v<0 then (v+(n:Int)).toNat else min v.toNat n
theorem sIx_none (n d:Nat):sIx n d none=d:=rfl
theorem sIx_nat (n d k:Nat):sIx n d (some (k:Int))=min k n:=by
 show (if (k:Int)<0 then ((k:Int)+(n:Int)).toNat else min (k:Int).toNat n)=min k n;rw[if_neg (by lia),Int.toNat_natCast]
end
end HT
namespace L2
open PySem PySem.Spec PyProof.Rows
abbrev TO:=St->Hp->(Option Int->Hp->Prop)->Prop
def PO (X:Cx) (e:Option Expr) (t:TO):Prop:=
 ∀ (pins:List (Addr×Obj)) (s:Shared) (σ:St) (H:Hp) (Q:Option Int->Hp->Prop),Inv X pins σ H s->t σ H Q ->
  wpAny (model X.prog X.w) X.A (evalPart e X.env) (fun u s'=>∃ o H',Inv X pins σ H' s'/\IsPart u o/\Q o H') X.xe s
def HB:TO:=fun _ H Q=>Q none H
def MU (t:TE):TO:=fun σ H Q=>t σ H fun x H1=>∃ i,x = .int i/\Q (some i) H1
theorem Mf {ns:List Int}:∀ {us:List Value},Vals (ns.map V.int) us->IntsAre us ns:=by
 induction ns with
 | nil=>intro us r; rw[List.map_nil] at r; cases r; exact .nil
 | cons n ns ih=>
  intro us r;rw[zAK] at r;cases r with
  | cons r1 r2=>
   obtain⟨t,e⟩:=r1;subst e;exact .cons n t (ih r2)
section
variable {X:Cx} {e:Expr} {te:TE} {lo hi:Option Expr} {tl th:TO} {pos p2:Pos}
theorem No:PO X none HB:=by
 intro pins s σ H Q I h;rw[evalPart_none];exact zCv ⟨none,H,I,.none,h⟩
theorem Oc (h:PE X e te):PO X (some e) (MU te):=by
 intro pins s σ H Q I hw;rw[evalPart_some];refine Db (h pins s σ H _ I hw) fun u s1 ⟨x,H1,I1,r1,q1⟩=>?_;obtain⟨i,rfl,q⟩:=q1;obtain⟨t,rfl⟩:=r1;exact⟨some i,H1,I1,.int i t,q⟩
def QD (X:Cx) (r:V->Option Int->Option Int->Hp->VK->Prop):Prop:=
 ∀ (pins:List (Addr×Obj)) (s:Shared) (σ:St) (H:Hp) (x:V) (v vl vu:Value) (lo hi:Option Int) (sl:Addr) (Q:VK),Inv X pins σ H s->RelV x v->s.heap.IsSliceOf sl vl vu .none->IsPart vl lo->IsPart vu hi->r x lo hi H Q ->
  ∃ T id,typeLookup (.type T) "__getitem__" = pure (some (.builtin id))/\s.TypeIs v T/\wpAny (model X.prog X.w) X.A (getItem v (.ref sl)) (EP X pins σ Q) X.xe s
def QM (r:V->Option Int->Option Int->Hp->VK->Prop) (te:TE) (tl th:TO):TE:=fun σ H Q=>te σ H fun x H1=>tl σ H1 fun l H2=>th σ H2 fun u H3=>r x l u H3 Q
theorem Ku {r:V->Option Int->Option Int->Hp->VK->Prop} (hr:QD X r) (he:PE X e te) (hl:PO X lo tl) (hu:PO X hi th):PE X (.Subscript e (.Slice lo hi none p2) pos) (QM r te tl th):=by
 intro pins s σ H Q I h;refine Subscript_ (Db (he pins s σ H _ I h) fun v s1 ⟨x,H1,I1,r1,q1⟩=>?_);refine wpAny_Slice (Db (hl pins s1 σ H1 _ I1 q1) fun vl s2 ⟨l,H2,I2,pl,q2⟩=>Db (hu pins s2 σ H2 _ I2 q2) fun vu s3 ⟨u,H3,I3,pu,q3⟩=>?_);rw[evalPart_none];refine zCv ?_;have I4:Inv X pins σ H3 { s3 with heap:=s3.heap.push { cls:=.type "slice",data:=.fields #[vl,vu,.none] } }:=I3.kept (t':=s3.toks) fun b ob q=>zAf _ q;obtain⟨T,id,hT,ht,hg⟩:=hr pins { s3 with heap:=s3.heap.push { cls:=.type "slice",data:=.fields #[vl,vu,.none] } } σ H3 x v vl vu l u s3.heap.objs.size Q I4 r1 (Heap.IsSliceOf.new ..) pl pu q3;show wpAny (model X.prog X.w) X.A (subscriptTail e (.Slice lo hi none p2) v (.ref s3.heap.objs.size)) (EP X pins σ Q) X.xe { s3 with heap:=s3.heap.push { cls:=.type "slice",data:=.fields #[vl,vu,.none] } };exact tail_any (ops:=[.ref s3.heap.objs.size,v]) ht hT hg (by with_unfolding_all rfl)
def Lg (xs:List V) (lo hi:Option Int):List V:=(xs.drop (HT.sIx xs.length 0 lo)).take (HT.sIx xs.length xs.length hi-HT.sIx xs.length 0 lo)
theorem D2 (xs:List V) (lo hi:Option Int):(Lg xs lo hi).length<=xs.length:=by
 unfold Lg;rw[zAt,zCa]
 lia
end
def HM (n:Nat) (i:Int):Option Nat:=if 0<=i then (if i<n then some i.toNat else none) else if -(n:Int)<=i then some (i+n).toNat else none
def Of {α:Type} (xs:List α) (i:Int):Option α:=(HM xs.length i).bind fun j=>xs[j]?
theorem X2 {n:Nat} {i:Int} {j:Nat} (h:HM n i=some j):seqIndex? i n=some j/\j<n/\-(n:Int)<=i/\i<n:=by
 unfold HM at h;by_cases h0:0<=i
 ·rw[if_pos h0] at h
  by_cases h1:i<n
  ·rw[if_pos h1] at h
   have e:i.toNat=j:=Option.some.inj h;exact⟨by rw[seqIndex_of h0 h1,e],by lia,by lia,h1⟩
  ·rw[if_neg h1] at h; cases h
 ·rw[if_neg h0] at h
  by_cases h1 : -(n:Int)<=i
  ·rw[if_pos h1] at h
   have e:(i+n).toNat=j:=Option.some.inj h;exact⟨by rw[seqIndex_neg (by lia) h1,e],by lia,h1,by lia⟩
  ·rw[if_neg h1] at h; cases h
theorem Yn {α:Type} {xs:List α} {i:Int} {v:α} (h:Of xs i=some v):∃ j,seqIndex? i xs.length=some j/\xs[j]?=some v/\j<xs.length/\-(xs.length:Int)<=i/\i<xs.length:=by
 unfold Of at h;cases e:HM xs.length i with
 | none=>rw[e] at h; cases h
 | some j=>
  rw[e] at h;obtain⟨h1,h2,h3,h4⟩:=X2 e;exact⟨j,h1,h,h2,h3,h4⟩
theorem Ge {α:Type} {xs:List α} {j:Nat} {v:α} (h:xs[j]?=some v):Of xs (j:Int)=some v:=by
 have hj:j<xs.length:=(zAj.mp h).1;have e:HM xs.length (j:Int)=some j:=by
  unfold HM;rw[if_pos (by lia),if_pos (by lia)]; simp
 unfold Of; rw[e]; exact h
theorem BO {α:Type} (xs:List α) (v:α):Of (xs++[v]) (-1)=some v:=by
 have hl:(xs++[v]).length=xs.length+1:=by simp
 have e:HM (xs++[v]).length (-1)=some xs.length:=by
  unfold HM;rw[hl,if_neg (by decide),if_pos (by lia)]
  congr 1
  lia
 unfold Of;rw[e];show (xs++[v])[xs.length]?=some v;simp
def HG (b:Expr):Prop:=∀ o i,subscripted b false o i=operate [o,i] (getItem o i)
def LM (X:Cx) (r:R2):Prop:=
 ∀ (value slice:Expr) (pins:List (Addr×Obj)) (s:Shared) (σ:St) (H:Hp) (x y:V) (v u:Value) (Q:VK),Inv X pins σ H s->RelV x v->RelV y u->r x y H Q ->
  subscripted slice false v u=operate [v,u] (getItem v u)->wpAny (model X.prog X.w) X.A (subscriptTail value slice v u) (EP X pins σ Q) X.xe s
def OZ (X:Cx) (id:String) (r:V->List V->Hp->VK->Prop):Prop:=
 ∀ (pins:List (Addr×Obj)) (s:Shared) (σ:St) (H:Hp) (x:V) (xs:List V) (v:Value) (us:List Value) (Q:VK),Inv X pins σ H s->RelV x v->Vals xs us->r x xs H Q ->
  wpAny (model X.prog X.w) X.A (call (.builtin id) (v::us)) (EP X pins σ Q) X.xe s
section
variable {X:Cx} {a b:Expr} {ta tb:TE} {pos:Pos}
theorem Bf {r:R2} (hr:LM X r) (ha:PE X a ta) (hb:PE X b tb) (hs:HG b):PE X (.Subscript a b pos) (NX r ta tb):=by
 intro pins s σ H Q I h;exact Subscript_ (KG ha hb I h fun v u s2 x y H2 I2 rx ry q=>hr a b pins s2 σ H2 x y v u Q I2 rx ry q (hs _ _))
def MQ (K:zAa):R2:=fun x y H Q=>∃ p xs i v,x = .ref p/\y = .int i/\SqL K H p xs/\Of xs i=some v/\Q v H
def MP (K:zAa):R2:=fun x y H Q=>∃ p xs i v,x = .ref p/\y = .int i/\SqT K H p xs/\Of xs i=some v/\Q v H
def PM:R2:=fun x y H Q=>∃ z i c,x = .str z/\y = .int i/\z.length<=sizeLine/\Of z.cps.toList i=some c/\Q (.str ⟨#[c]⟩) H
theorem Bp:LM X (MQ X.K):=by
 intro value slice pins s σ H x y v u Q I rx ry h hs;obtain⟨p,xs,i,z,rfl,rfl,hq,he,q⟩:=h;cases rx;obtain⟨t,rfl⟩:=ry;obtain⟨its,r,pl,hz⟩:=I.list hq;obtain⟨j,h1,h2,h3,h4,h5⟩:=Yn he;obtain⟨w,ew,rw'⟩:=r.get h2;have hl:=r.length;have hn:=Mj;have fin:EP X pins σ Q w s:=⟨z,H,I,rw',q⟩;by_cases h0:0<=i
 ·have hj:i.toNat=j:=by
   rw[seqIndex_of h0 h5] at h1;exact Option.some.inj h1
  exact item_listR pl.isList h0 (by lia) (by rw[hj]; simpa using ew) fin hs
 ·have hj:(i+(its.toArray.size:Int)).toNat=j:=by
   rw[seqIndex_neg (by lia) h4] at h1;rw[zAh,<- hl];exact Option.some.inj h1
  exact subscriptTail_builtinR (x:=w) pl.isList.typeIs slot_list_getitem.lookup
   (wpAny_getItem_list_neg (Q:=fun r s'=>r=w/\EP X pins σ Q r s') pl.isList (by lia) (by rw[zAh] <;> lia) (by lia) (by rw[hj]; simpa using ew) ⟨rfl,fin⟩) hs
theorem Bn:LM X (MP X.K):=by
 intro value slice pins s σ H x y v u Q I rx ry h hs;obtain⟨p,xs,i,z,rfl,rfl,hq,he,q⟩:=h;cases rx;obtain⟨t,rfl⟩:=ry;obtain⟨its,r,pl,hz⟩:=I.tuple hq;obtain⟨j,h1,h2,h3,h4,h5⟩:=Yn he;obtain⟨w,ew,rw'⟩:=r.get h2;have hl:=r.length;have hn:=Mj;have fin:EP X pins σ Q w s:=⟨z,H,I,rw',q⟩;exact subscriptTail_builtinR (x:=w) pl.typeIs slot_tuple_getitem.lookup
  (getItem_tuple (j:=j) (Q:=fun r s'=>r=w/\EP X pins σ Q r s') pl (by lia) (by lia) (by rw[zAh,<- hl]; exact h1) (by simpa using ew) ⟨rfl,fin⟩) hs
theorem CQ:LM X PM:=by
 intro value slice pins s σ H x y v u Q I rx ry h hs;obtain⟨z,i,c,rfl,rfl,hz,he,q⟩:=h;obtain⟨t,rfl⟩:=rx;obtain⟨t',rfl⟩:=ry;obtain⟨j,h1,h2,h3,h4,h5⟩:=Yn he;have hl:z.cps.toList.length=z.length:=by simp [Str.length]
 rw[hl] at h1 h4 h5;have hn:=Mj;exact tail_any (typeIs_str s z t) slot_str_getitem.lookup (getItem_str (c:=c) (by
  have e1:decide (i < -(2^63:Int))=false:=decide_eq_false (by lia);have e2:decide (i≥2^63)=false:=decide_eq_false (by lia);rw[e1,e2,Bool.or_false]) (by rw[h1]; simpa using h2) ⟨.str ⟨#[c]⟩,H,I.tok _,⟨_,rfl⟩,q⟩) hs
theorem M8 (its:List Value) (n j:Nat) (u:Value):Obj.mapSeq (·.setIfInBounds j u) { cls:=.type "list",data:=.seq its.toArray n }={ cls:=.type "list",data:=.seq (its.set j u).toArray n }:=by
 simp [Obj.mapSeq]
theorem Inv.lst {pins:List (Addr×Obj)} {σ:St} {H:Hp} {s:Shared} {p:Addr} {xs:List V} (I:Inv X pins σ H s) (h:H p=some (.lst xs)) :
  ∃ (its:List Value) (n:Nat),Vals xs its/\s.heap.get? p=some { cls:=.type "list",data:=.seq its.toArray n }/\xs.length<=sizeLine:=by
 obtain⟨z,its,n,r,e⟩:=I.hok p _ h;exact⟨its,n,r,e,z⟩
theorem Inv.lstUpd {pins:List (Addr×Obj)} {σ:St} {H:Hp} {s:Shared} {p:Addr} {xs ys:List V} {its its':List Value} {n n':Nat} {f:Obj->Obj} (I:Inv X pins σ H s) (h:H p=some (.lst xs))
  (ho:s.heap.get? p=some { cls:=.type "list",data:=.seq its.toArray n }) (hf:f { cls:=.type "list",data:=.seq its.toArray n }={ cls:=.type "list",data:=.seq its'.toArray n' }) (r:Vals ys its') (hz:ys.length<=sizeLine) (t:Nat) :
  Inv X pins σ (upd H p (.lst ys)) { s with heap:=s.heap.update p f,toks:=t }:=by
 have e:(s.heap.update p f).get? p=some { cls:=.type "list",data:=.seq its'.toArray n' }:=by
  rw[zBV f ho (by rw[hf] <;> rfl),hf]
 refine I.write (x:=p) (e:=p) (by rw[h]; trivial) (.inl rfl) (fun b u hb q=>(zBP _ _ (Ne.symm hb)).trans q) ⟨_,e⟩ ?_;exact⟨hz,its',n',r,e⟩
def ML:V->V->V->Hp->(Hp->Prop)->Prop:=fun o i v H Q=>∃ p xs k j,o = .ref p/\i = .int k/\H p=some (.lst xs)/\HM xs.length k=some j/\Q (upd H p (.lst (xs.set j v)))
theorem CT:MK X ML:=by
 intro pins s σ H o i v ov iv u Q I ro ri rv h;obtain⟨p,xs,k,j,rfl,rfl,hp,hj,q⟩:=h;cases ro;obtain⟨t,rfl⟩:=ri;obtain⟨its,n,r,ho,hz⟩:=I.lst hp;obtain⟨h1,h2,h3,h4⟩:=X2 hj;have hl:=r.length;have hn:=Mj;have I':Inv X pins σ (upd H p (.lst (xs.set j v))) { s with heap:=s.heap.update p (Obj.mapSeq (·.setIfInBounds j u)) }:=
  I.lstUpd hp ho (M8 its n j u) (r.set rv j) (by rw[List.length_set]; exact hz) s.toks
 by_cases h0:0<=k
 ·have hk:k.toNat=j:=by
   rw[seqIndex_of h0 h4] at h1;exact Option.some.inj h1
  exact PySem.W.ki_setAt ho h0 (by lia) (by rw[zAh,<- hl]; exact h4) (by rw[hk]; exact⟨_,I',q⟩)
 ·have hk:(k+(its.toArray.size:Int)).toNat=j:=by
   rw[seqIndex_neg (by lia) h3] at h1;rw[zAh,<- hl];exact Option.some.inj h1
  exact PySem.W.ki_setBack ho (by lia) (by rw[zAh,<- hl]; exact h3) (by lia) (by rw[hk]; exact⟨_,I',q⟩)
theorem Yy (lo hi:Option Int) (n:Nat):(sliceBounds lo hi none n).1=((HT.sIx n 0 lo:Nat):Int)/\(sliceBounds lo hi none n).2.1=((HT.sIx n n hi:Nat):Int)/\(sliceBounds lo hi none n).2.2=1:=by
 refine⟨?_,?_,rfl⟩
 ·cases lo with
  | none=>simp [sliceBounds,HT.sIx]
  | some i=>
   simp only [sliceBounds,HT.sIx,Option.getD_none,show (1:Int)>0 by decide,if_true];by_cases h:i<0
   ·simp only [h,if_true] <;> lia
   ·simp only [h,if_false] <;> lia
 ·cases hi with
  | none=>simp [sliceBounds,HT.sIx]
  | some i=>
   simp only [sliceBounds,HT.sIx,Option.getD_none,show (1:Int)>0 by decide,if_true];by_cases h:i<0
   ·simp only [h,if_true] <;> lia
   ·simp only [h,if_false] <;> lia
theorem Vj (its:List Value) (lo hi:Option Int):slicePick its.toArray lo hi none=((its.drop (HT.sIx its.length 0 lo)).take (HT.sIx its.length its.length hi-HT.sIx its.length 0 lo)).toArray:=by
 obtain⟨h1,h2,h3⟩:=Yy lo hi its.toArray.size;unfold slicePick;rw[h1,h2,h3];simp only [sliceRange_one,pick_run,zAh] <;> rfl
def NZ (K:zAa):V->Option Int->Option Int->Hp->VK->Prop:=fun x lo hi H Q=>∃ a xs,x = .ref a/\SqL K H a xs/\∀ p,H p=none->Q (.ref p) (upd H p (.lst (Lg xs lo hi)))
theorem Nm:QD X (NZ X.K):=by
 intro pins s σ H x v vl vu lo hi sl Q I rx hs pl pu h;obtain⟨a,xs,rfl,hx,q⟩:=h;cases rx;obtain⟨its,r,ht,hz⟩:=I.list hx;have hlen:=r.length;refine⟨"list",_,slot_list_getitem.lookup,ht.isList.typeIs,?_⟩;refine wpAny_getItem_list_slice ht.isList hs pl pu .none (by simp) ?_ (by rw[zAh] <;> lia);rw[Vj,<- hlen];refine⟨.ref s.heap.objs.size,_,I.laid (t':=s.toks) (o:=.lst (Lg xs lo hi)) (fun b ob q=>zAf _ q) (zAl _) ?_,rfl,q _ (I.hok.fresh (zAl _))⟩;exact⟨zAE (D2 xs lo hi) hz,_,0,(r.drop (HT.sIx xs.length 0 lo)).take (HT.sIx xs.length xs.length hi-HT.sIx xs.length 0 lo),zAy _ rfl⟩
def Fb:V->Bool
 | .non=>true
 | .bl _=>true
 | .int _=>true
 | .str _=>true
 | _=>false
def Wl:V->V->Bool
 | .non,.non=>true
 | .bl a,.bl b=>a==b
 | .bl a,.int b=>(if a then 1 else 0)==b
 | .int a,.bl b=>a==(if b then 1 else 0)
 | .int a,.int b=>a==b
 | .str a,.str b=>a==b
 | _,_=>false
theorem J3 {A:Around} {s:Shared} {y x:V} {u v:Value} (ry:RelV y u) (rx:RelV x v) (fy:Fb y=true) (fx:Fb x=true):SeqAt.EqAt A s u v (Wl y x):=by
 cases y with
 | non=>
  cases ry
  cases x with
  | non=>cases rx; exact SeqAt.EqAt.same _
  | bl b=>cases rx; exact SeqAt.EqAt.none_bool b
  | int b=>obtain⟨t,rfl⟩:=rx; exact SeqAt.EqAt.none_int b t
  | str b=>obtain⟨t,rfl⟩:=rx; exact SeqAt.EqAt.none_str b t
  | _=>exact absurd (show false=true from fx) zAm
 | bl a=>
  cases ry
  cases x with
  | non=>cases rx; exact SeqAt.EqAt.bool_none a
  | bl b=>cases rx; exact SeqAt.EqAt.bool_bool a b
  | int b=>obtain⟨t,rfl⟩:=rx; exact SeqAt.EqAt.bool_int a b t
  | str b=>obtain⟨t,rfl⟩:=rx; exact SeqAt.EqAt.bool_str a b t
  | _=>exact absurd (show false=true from fx) zAm
 | int a=>
  obtain⟨t',rfl⟩:=ry;cases x with
  | non=>cases rx; exact SeqAt.EqAt.int_none a t'
  | bl b=>cases rx; exact SeqAt.EqAt.int_bool a t' b
  | int b=>obtain⟨t,rfl⟩:=rx; exact SeqAt.EqAt.int_int a t' b t
  | str b=>obtain⟨t,rfl⟩:=rx; exact SeqAt.EqAt.int_str a t' b t
  | _=>exact absurd (show false=true from fx) zAm
 | str a=>
  obtain⟨t',rfl⟩:=ry;cases x with
  | non=>cases rx; exact SeqAt.EqAt.str_none a t'
  | bl b=>cases rx; exact SeqAt.EqAt.str_bool a t' b
  | int b=>obtain⟨t,rfl⟩:=rx; exact SeqAt.EqAt.str_int a t' b t
  | str b=>obtain⟨t,rfl⟩:=rx; exact SeqAt.EqAt.str_str a t' b t
  | _=>exact absurd (show false=true from fx) zAm
 | _=>exact absurd (show false=true from fy) zAm
def Q7 (x:V) (u:Value):Bool:=match u with
 | .none=>Wl .non x
 | .bool b=>Wl (.bl b) x
 | .int i _=>Wl (.int i) x
 | .str z _=>Wl (.str z) x
 | _=>false
theorem CU {x y:V} {u:Value} (r:RelV y u) (f:Fb y=true):Q7 x u=Wl y x:=by
 cases y with
 | non=>cases r; rfl
 | bl b=>cases r; rfl
 | int i=>obtain⟨t,rfl⟩:=r; rfl
 | str z=>obtain⟨t,rfl⟩:=r; rfl
 | _=>exact absurd (show false=true from f) zAm
theorem Nn {x:V}:∀ {xs:List V} {us:List Value},Vals xs us->xs.all Fb=true->us.any (Q7 x)=xs.any fun y=>Wl y x
 | _,_,.nil,_=>rfl
 | y::xs,u::us,.cons r t,f=>by
  rw[zCg,zAv] at f;rw[zBE,zBE,CU r f.1,Nn t f.2]
theorem Kf {A:Around} {s:Shared} {x:V} {v:Value} (rx:RelV x v) (fx:Fb x=true):∀ {xs:List V} {us:List Value},Vals xs us->xs.all Fb=true->∀ u∈us,SeqAt.EqAt A s u v (Q7 x u)
 | _,_,.nil,_=>fun u hu=>by cases hu
 | y::xs,u::us,.cons r t,f=>fun u' hu=>by
  rw[zCg,zAv] at f;rcases zAn.mp hu with rfl | hu
  ·rw[CU r f.1]; exact J3 r rx f.1 fx
  ·exact Kf rx fx t f.2 u' hu
def FQ (x:V) (xs:List V):Bool:=xs.any fun y=>Wl y x
def QJ (K:zAa) (neg:Bool):R2:=fun x y H Q=>∃ p xs,y = .ref p/\(SqL K H p xs\/SqT K H p xs)/\Fb x=true/\xs.all Fb=true/\Q (.bl (if neg then !FQ x xs else FQ x xs)) H
theorem Oi:Lh X (compareOp .In) (QJ X.K false):=by
 intro pins s σ H x y v u Q I rx ry h;obtain⟨p,xs,rfl,hq,fx,fs,q⟩:=h;cases ry;rcases hq with hq | hq
 ·obtain⟨its,r,pl,hz⟩:=I.list hq
  refine SeqAt.in_listAt (Q7 x) pl.isList (fun w hw=>Kf rx fx r fs w (by simpa using hw)) ⟨.bl _,H,I,rfl,?_⟩;rw[show its.toArray.any (Q7 x)=its.any (Q7 x) by simp,Nn r fs];exact q
 ·obtain⟨its,r,pl,hz⟩:=I.tuple hq
  refine SeqAt.in_tupleAt (Q7 x) pl (fun w hw=>Kf rx fx r fs w (by simpa using hw)) ⟨.bl _,H,I,rfl,?_⟩;rw[show its.toArray.any (Q7 x)=its.any (Q7 x) by simp,Nn r fs];exact q
theorem Nh:Lh X (compareOp .NotIn) (QJ X.K true):=by
 intro pins s σ H x y v u Q I rx ry h;obtain⟨p,xs,rfl,hq,fx,fs,q⟩:=h;cases ry;rcases hq with hq | hq
 ·obtain⟨its,r,pl,hz⟩:=I.list hq
  refine SeqAt.notIn_listAt (Q7 x) pl.isList (fun w hw=>Kf rx fx r fs w (by simpa using hw)) ⟨.bl _,H,I,rfl,?_⟩;rw[show its.toArray.any (Q7 x)=its.any (Q7 x) by simp,Nn r fs];exact q
 ·obtain⟨its,r,pl,hz⟩:=I.tuple hq
  refine SeqAt.notIn_tupleAt (Q7 x) pl (fun w hw=>Kf rx fx r fs w (by simpa using hw)) ⟨.bl _,H,I,rfl,?_⟩;rw[show its.toArray.any (Q7 x)=its.any (Q7 x) by simp,Nn r fs];exact q
theorem Yt:Lh X (compareOp .NotIn) (fun x y H Q=>∃ i j,x = .str i/\y = .str j/\Q (.bl (!(!(Builtin.Str.occurrences j i 0 j.length 1).isEmpty))) H):=by
 intro pins s σ H x y v u Q I rx ry h;obtain⟨i,j,rfl,rfl,q⟩:=h;obtain⟨t,rfl⟩:=rx;obtain⟨t',rfl⟩:=ry;exact notIn_str ⟨.bl _,H,I,rfl,q⟩
theorem Ci:Gr X (.builtin "len") (fun xs H Q=>∃ p ys,xs=[.ref p]/\(SqL X.K H p ys\/SqT X.K H p ys)/\Q (.int ys.length) H):=by
 intro pins s σ H xs us Q I r h;obtain⟨p,ys,rfl,hq,q⟩:=h;obtain⟨u,rfl,rx⟩:=Jm r;cases rx;have hn:=Mj;rcases hq with hq | hq
 ·obtain⟨its,r',pl,hz⟩:=I.list hq
  have hlen:=r'.length;exact Calls.call_len_list pl.isList (by simp only [zAh] <;> lia) ⟨.int ys.length,H,I.tok _,⟨s.toks+1,by rw[zAh,hlen]⟩,q⟩
 ·obtain⟨its,r',pl,hz⟩:=I.tuple hq
  have hlen:=r'.length;exact len_tuple pl (by simp only [zAh] <;> lia) ⟨.int ys.length,H,I.tok _,⟨s.toks+1,by rw[zAh,hlen]⟩,q⟩
theorem Yc:Gr X (.builtin "len") (fun xs H Q=>∃ z,xs=[.str z]/\z.length<=sizeLine/\Q (.int z.length) H):=by
 intro pins s σ H xs us Q I r h;obtain⟨z,rfl,hz,q⟩:=h;obtain⟨u,rfl,t,rfl⟩:=Jm r;have hn:=Mj;exact len_str (by lia) ⟨.int z.length,H,I.tok _,⟨_,rfl⟩,q⟩
theorem Dt:Gr X (.type "list") (fun xs H Q=>∃ p ys,xs=[.ref p]/\(SqL X.K H p ys\/SqT X.K H p ys)/\∀ l,H l=none->Q (.ref l) (upd H l (.lst ys))):=by
 intro pins s σ H xs us Q I r h;obtain⟨p,ys,rfl,hq,q⟩:=h;obtain⟨u,rfl,rx⟩:=Jm r;cases rx;have fin:∀ (its:List Value),Vals ys its->ys.length<=sizeLine->∀ (h':Heap) (c':Nat),(∀ b o',s.heap.get? b=some o'->h'.get? b=some o') ->
   h'.get? s.heap.objs.size=some { cls:=.type "list",dict:=none,data:=.seq its.toArray c',slots := #[] }->EP X pins σ Q (.ref s.heap.objs.size) { s with heap:=h' }:=fun its r' hz h' c' kp e=>
  ⟨.ref s.heap.objs.size,_,I.laid (t':=s.toks) kp (zAl _) (show ObjOk X.prog X.w _ h' _ (.lst ys) from ⟨hz,its,c',r',e⟩),rfl,q _ (I.hok.fresh (zAl _))⟩
 rcases hq with hq | hq
 ·obtain⟨its,r',pl,hz⟩:=I.list hq
  have hlen:=r'.length;obtain⟨o,ho,hc,n,hd⟩:=pl.isList;exact call_list_seq p (.inl rfl) ho hc hd (fun h' c' kp e=>fin its r' hz h' c' kp e) (by simp only [zAh] <;> lia)
 ·obtain⟨its,r',pl,hz⟩:=I.tuple hq
  have hlen:=r'.length;obtain⟨o,ho,hc,n,hd⟩:=pl;exact call_list_seq p (.inr rfl) ho hc hd (fun h' c' kp e=>fin its r' hz h' c' kp e) (by simp only [zAh] <;> lia)
def OJ (K:zAa) (T:String) (x:V) (H:Hp):Prop:=match x with
 | .str _=>T = "str"
 | .int _=>T = "int"
 | .ref p=>(T = "list"/\∃ xs,SqL K H p xs)\/(T = "tuple"/\∃ o,K.lookup p=some o/\o.cls = .type "tuple"/\o.dict=none) \/
   (T = "dict"/\((∃ kvs,H p=some (.dK kvs))\/∃ kvs,H p=some (.dT kvs)))\/(T = "set"/\∃ S n,H p=some (.set S n))
 | _=>False
theorem CW {pins:List (Addr×Obj)} {σ:St} {H:Hp} {s:Shared} {T:String} {x:V} {v:Value} (I:Inv X pins σ H s) (r:RelV x v) (ty:OJ X.K T x H) :
  s.TypeIs v T/\∀ a,v = .ref a->∃ ob,s.heap.get? a=some ob/\ob.dict=none:=by
 cases x with
 | str z=>
  obtain⟨t,rfl⟩:=r;cases (show T = "str" from ty);exact⟨typeIs_str s z t,fun _ e=>nomatch e⟩
 | int i=>
  obtain⟨t,rfl⟩:=r;cases (show T = "int" from ty);exact⟨typeIs_int s i t,fun _ e=>nomatch e⟩
 | ref p=>
  cases r
  rcases ty with ⟨rfl,xs,hq⟩ | ⟨rfl,o,hk,hc,hd⟩ | ⟨rfl,hk⟩ | ⟨rfl,S,n,hk⟩
  ·obtain⟨its,_,pl,_⟩:=I.list hq
   refine⟨pl.isList.typeIs,fun a e=>?_⟩;cases e;obtain⟨o,n,e,c,hd,_⟩:=pl;exact⟨o,e,hd⟩
  ·refine⟨⟨o,I.kIn p o hk,hc⟩,fun a e=>?_⟩
   cases e
   exact⟨o,I.kIn _ o hk,hd⟩
  ·have z:∃ o,s.heap.get? p=some o/\o.ExactDict:=by
    rcases hk with ⟨kvs,hk⟩ | ⟨kvs,hk⟩
    ·obtain⟨_,_,_,_,o,_,_,e,ex,_⟩:=I.hok p _ hk
     exact⟨o,e,ex⟩
    ·obtain⟨_,_,_,_,o,_,_,e,ex,_⟩:=I.hok p _ hk
     exact⟨o,e,ex⟩
   obtain⟨o,e,ex⟩:=z;refine⟨⟨o,e,ex.1⟩,fun a e2=>?_⟩;cases e2;exact⟨o,e,ex.2.1⟩
  ·obtain⟨o,_,_,_,e,ex,_⟩:=I.hok p _ hk
   refine⟨⟨o,e,ex.1⟩,fun a e2=>?_⟩;cases e2;exact⟨o,e,ex.2.1⟩
 | _=>exact False.elim ty
def PJ (K:zAa) (T:String) (r:V->List V->Hp->VK->Prop) (to:TE):TE:=fun σ H Q=>to σ H fun x H1=>OJ K T x H1/\r x [] H1 Q
def QK (K:zAa) (T:String) (r:V->List V->Hp->VK->Prop) (to:TE) (t:TA):TE:=fun σ H Q=>to σ H fun x H1=>OJ K T x H1/\t σ H1 fun xs H2=>r x xs H2 Q
variable {o e:Expr} {es:List Expr} {to:TE} {t:TA} {name:Str} {apos cpos:Pos} {T id:String} {r:V->List V->Hp->VK->Prop}
theorem KO (pa:PlainAttrs T) (slot:Slot T name id) (hty:typeOf (.builtin id)=pure (.type "method_descriptor")) (hm:OZ X id r) (ho:PE X o to)
  (hbase:attributeBase o name X.env (eval o X.env)=eval o X.env:=by rfl) (hline:(apos.endLine==cpos.line)=true:=by rfl):PE X (.Call (.Attribute o name apos) [] [] cpos) (PJ X.K T r to):=by
 intro pins s σ H Q I h;refine wpAny_Call_method0_late hbase hline (Db (ho pins s σ H _ I h) fun v s1 ⟨x,H1,I1,r1,ty,q1⟩=>?_);obtain⟨h1,h2⟩:=CW I1 r1 ty;exact⟨T,id,pa,slot,hty,h1,h2,Calls.callWith_builtin rfl (PySem.evalArgs_none (hm pins s1 σ H1 x [] v [] Q I1 r1 .nil q1))⟩
theorem Hd (pa:PlainAttrs T) (slot:Slot T name id) (hty:typeOf (.builtin id)=pure (.type "method_descriptor")) (hm:OZ X id r) (ho:PE X o to) (ha:PA X (e::es) t)
  (hbase:attributeBase o name X.env (eval o X.env)=eval o X.env:=by rfl)
  (hfew:((backTo cpos (starEach (e::es) X.env)).all (fun x => !x.1)&&(backToKw cpos (keywordEach [] X.env)).all (fun x=>x.1.isSome)
   && decide ((e::es).length+([]:List Keyword).length+(if ([]:List Keyword).isEmpty then 0 else 1)<30))=true:=by rfl)
  (hline:(apos.endLine==cpos.line)=true:=by rfl) (hs:starEach (e::es) X.env=(false,eval e X.env)::starEach es X.env:=by rfl) (hplain:(backTo cpos (starEach es X.env)).any (·.1)=false:=by rfl) :
  PE X (.Call (.Attribute o name apos) (e::es) [] cpos) (QK X.K T r to t):=by
 intro pins s σ H Q I h;refine wpAny_Call_method_late hbase hfew hline rfl (Db (ho pins s σ H _ I h) fun v s1 ⟨x,H1,I1,r1,ty,q1⟩=>?_);obtain⟨h1,h2⟩:=CW I1 r1 ty;refine⟨T,id,pa,slot,hty,h1,h2,?_⟩;have hA:=ha cpos pins s1 σ H1 _ I1 q1;rw[hs] at hA ⊢;refine Calls.callWith_builtin (by show (false||(backTo cpos (starEach es X.env)).any (·.1))=false; rw[hplain] <;> rfl) (Calls.evalArgs_plain ?_);exact Db hA fun us s2 ⟨vs,H2,I2,r2,q2⟩=>hm pins s2 σ H2 x vs v us Q I2 r1 r2 q2
/- xs.append(e),list.index on a module's tuple .. are OZ facts of 06m -/
end
def NY (X:Cx) (id:String) (r:V->List V->Hp->VK->Prop):Prop:=
 ∀ (pins:List (Addr×Obj)) (s:Shared) (σ:St) (H:Hp) (x:V) (xs:List V) (v:Value) (us:List Value) (Q:VK),Inv X pins σ H s->RelV x v->Vals xs us->r x xs H Q ->
  wpAny (model X.prog X.w) X.A (call (.builtin id) (v::us)) (EP X pins σ Q) X.xe s
theorem Vals.one:∀ {x:V} {us:List Value},Vals [x] us->∃ u,us=[u]/\RelV x u
 | _,_,.cons r .nil=>⟨_,rfl,r⟩
theorem Vals.zero:∀ {us:List Value},Vals [] us->us=[]
 | _,.nil=>rfl
theorem Vals.dropLast {xs:List V} {us:List Value} (h:Vals xs us):Vals xs.dropLast us.dropLast:=by
 induction h with
 | nil=>exact .nil
 | cons r t ih=>
  cases t with
  | nil=>exact .nil
  | cons q t'=>exact .cons r ih
theorem Vals.reverse {xs:List V} {us:List Value} (h:Vals xs us):Vals xs.reverse us.reverse:=by
 induction h with
 | nil=>exact .nil
 | cons r t ih=>rw[List.reverse_cons,List.reverse_cons]; exact Vals.append ih (.cons r .nil)
theorem Vals.rep {xs:List V} {us:List Value} (h:Vals xs us):∀ k:Nat,Vals (zAH k xs).flatten (zAH k us).flatten
 | 0=>.nil
 | k+1=>by
  rw[zBr,zBr,zBw,zBw];exact Vals.append h (Vals.rep h k)
theorem Q8 {α:Type} (l:List α):l.eraseIdx (l.length-1)=l.dropLast:=by
 induction l with
 | nil=>rfl
 | cons a r ih=>
  cases r with
  | nil=>rfl
  | cons b r=>
   have e:(a::b::r).length-1=((b::r).length-1)+1:=by
    have h1:(a::b::r).length=r.length+2:=rfl;have h2:(b::r).length=r.length+1:=rfl
    lia
   rw[e,List.eraseIdx_cons_succ,ih]
   all_goals rfl
section
variable {X:Cx} {pins:List (Addr×Obj)} {σ:St} {H:Hp} {s:Shared} {l b:Addr} {xs ys zs:List V}
theorem Inv.lset {its its':List Value} {n:Nat} {f:Array Value->Array Value} {t':Nat} (I:Inv X pins σ H s) (hH:H l=some (.lst xs))
  (e:s.heap.get? l=some { cls:=.type "list",data:=.seq its.toArray n }) (hf:f its.toArray=its'.toArray) (hv:Vals ys its') (hz:ys.length<=sizeLine) :
  Inv X pins σ (upd H l (.lst ys)) { s with heap:=s.heap.update l (Obj.mapSeq f),toks:=t' }:=by
 have q:=PySem.IsL.update e f;rw[hf] at q;refine I.write (x:=l) (e:=l) (by rw[hH]; exact trivial) (.inl rfl) (fun b' u hb hu=>(zBP s.heap (Obj.mapSeq f) (Ne.symm hb)).trans hu) ⟨_,q⟩ ?_;exact⟨hz,its',_,hv,q⟩
theorem Inv.lnew {its:List Value} {t':Nat} (I:Inv X pins σ H s) (hv:Vals ys its) (hz:ys.length<=sizeLine) :
  Inv X pins σ (upd H s.heap.objs.size (.lst ys)) { s with heap:=s.heap.push { cls:=.type "list",data:=.seq its.toArray },toks:=t' }:=
 I.laid (fun _ _ q=>zAf _ q) (zAl _) ⟨hz,its,0,hv,zAy _ rfl⟩
theorem Inv.fresh (I:Inv X pins σ H s):H s.heap.objs.size=none:=I.hok.fresh (zAl _)
theorem Inv.lstM (I:Inv X pins σ H s) (hH:H l=some (.lst xs)):xs.length<=sizeLine/\∃ (its:List Value) (n:Nat),Vals xs its/\xs.length=its.length/\s.heap.get? l=some { cls:=.type "list",data:=.seq its.toArray n }:=by
 obtain⟨z,its,n,r,e⟩:=I.hok l _ hH;exact⟨z,its,n,r,r.length,e⟩
theorem B7 {n:Nat} (h:n<=sizeLine):Builtin.List.listTooLong n=false:=by
 unfold Builtin.List.listTooLong;exact decide_eq_false (by lia)
end
section
variable {X:Cx}
def GY:V->List V->Hp->VK->Prop:=fun x vs H Q=>∃ l xs y,x = .ref l/\vs=[y]/\H l=some (.lst xs)/\xs.length<sizeLine/\Q .non (upd H l (.lst (xs++[y])))
theorem Dv:NY X "list.append" GY:=by
 intro pins s σ H x vs v us Q I rx rv h;obtain⟨l,xs,y,rfl,rfl,hH,hz,q⟩:=h;cases rx;obtain⟨u,rfl,ru⟩:=rv.one;obtain⟨z,its,n,r,hl,e⟩:=I.lstM hH;refine call_meets F.slot_list_append ⟨_,e,rfl⟩ F.entry_list_append (F.args_list_append_2 _ _) (PySem.list_append l its.toArray n u (by rw[zAh]; lia)) ⟨e,?_⟩;refine⟨.non,_,I.lset (its':=its++[u]) hH e (by simp) (r.append (.cons ru .nil)) ?_,rfl,q⟩;rw[zAi,List.length_singleton]
 lia
def HW:V->List V->Hp->VK->Prop:=fun x vs H Q=>∃ l b xs zs,x = .ref l/\vs=[.ref b]/\H l=some (.lst xs)/\H b=some (.lst zs)/\xs.length+zs.length<=sizeLine/\Q .non (upd H l (.lst (xs++zs)))
theorem Ld:NY X "list.extend" HW:=by
 intro pins s σ H x vs v us Q I rx rv h;obtain⟨l,b,xs,zs,rfl,rfl,hH,hB,hz,q⟩:=h;cases rx;obtain⟨u,rfl,ru⟩:=rv.one;cases ru;obtain⟨z,its,n,r,hl,e⟩:=I.lstM hH;obtain⟨z2,its2,n2,r2,hl2,e2⟩:=I.lstM hB;have hsz:its.toArray.size+its2.toArray.size<=sizeLine:=by rw[zAh,zAh]; lia
 have hlong:¬ (!its.toArray.isEmpty&&Builtin.List.listTooLong (its.toArray.size+its2.toArray.size))=true:=by
  rw[B7 hsz,zBI];exact zAm
 refine call_meets F.slot_list_extend ⟨_,e,rfl⟩ F.entry_list_extend (F.args_list_extend_2 _ _)
  (AutoSeq1.list_extend_list_list_0 l its.toArray n b its2.toArray n2 hlong (by rw[zAh]; lia) (by lia)) ⟨e,e2,?_⟩
 refine⟨.non,_,I.lset (its':=its++its2) hH e (by simp) (r.append r2) ?_,rfl,q⟩;rw[zAi]
 lia
def QA:V->List V->Hp->VK->Prop:=fun x vs H Q=>∃ l xs y,x = .ref l/\vs=[]/\H l=some (.lst xs)/\xs[xs.length-1]?=some y/\Q y (upd H l (.lst xs.dropLast))
theorem JD:NY X "list.pop" QA:=by
 intro pins s σ H x vs v us Q I rx rv h;obtain⟨l,xs,y,rfl,rfl,hH,hy,q⟩:=h;cases rx;have hus:=rv.zero;subst hus;obtain⟨z,its,n,r,hl,e⟩:=I.lstM hH;obtain⟨u,hu,ru⟩:=r.get hy;have hy':its.toArray[its.toArray.size-1]?=some u:=by
  show its.toArray[its.length-1]?=some u;rw[<- zBj,<- hl];exact hu
 refine call_meets F.slot_list_pop ⟨_,e,rfl⟩ F.entry_list_pop (F.args_list_pop_1 _) (MeetsSeq.list_pop_last l its.toArray n u hy' (by rw[zAh]; lia)) ⟨e,?_⟩;refine⟨y,_,I.lset (its':=its.dropLast) hH e ?_ r.dropLast ?_,ru,q⟩
 ·show its.toArray.eraseIdxIfInBounds (its.toArray.size-1)=its.dropLast.toArray
  rw[zAh,List.eraseIdxIfInBounds_toArray,Q8]
 ·rw[List.length_dropLast]
  lia
def OI:R2:=fun x y H Q=>∃ l b xs zs,x = .ref l/\y = .ref b/\H l=some (.lst xs)/\H b=some (.lst zs)/\xs.length+zs.length<=sizeLine/\∀ p,H p=none->Q (.ref p) (upd H p (.lst (xs++zs)))
theorem Hw:Lh X (binaryOp .Add) OI:=by
 intro pins s σ H x y v u Q I rx ry h;obtain⟨l,b,xs,zs,rfl,rfl,hH,hB,hz,q⟩:=h;cases rx;cases ry;obtain⟨z,its,n,r,hl,e⟩:=I.lstM hH;obtain⟨z2,its2,n2,r2,hl2,e2⟩:=I.lstM hB;refine PySem.P.add_list e e2 ?_ (by rw[zAh,zAh]; lia);have ea:its.toArray++its2.toArray=(its++its2).toArray:=by simp
 rw[ea];exact⟨.ref _,_,I.lnew (t':=s.toks) (r.append r2) (by rw[zAi]; lia),rfl,q _ I.fresh⟩
theorem GZ {α:Type} (xs:List α) (k:Nat):(zAH k xs).flatten.length=k*xs.length:=by
 induction k with
 | zero=>simp
 | succ k ih=>rw[zBr,zBw,zAi,ih,Nat.succ_mul,Nat.add_comm]
end
section
variable {prog:Program} {w:World} {A:Around} {E:Value->Shared->Prop} {s:Shared}
end
section
variable {X:Cx}
end
end L2
namespace Att
open PySem PySem.W PySem.Calls PyProof.Rows
theorem Qu {P:Params} {h:Heap}:∀ (ns:List Int) (vs:List Value),WellAll P h vs (ns.map WData.int)->IntsAre vs ns:=by
 intro ns
 induction ns with
 | nil=>
  intro vs w;rw[List.map_nil] at w;cases w;exact .nil
 | cons n ns ih=>
  intro vs w;rw[zAK] at w;cases w with
  | cons a b=>
   cases a
   exact .cons _ _ (ih _ b)
theorem Z3 {l:OpenLaw} {n:Nat} (hn:l.most=some n) {P:Params} {h:Heap} {args:List WData} {vals:List Value}
  (hpre:l.row.toRowW.claim.pre args=true) (hwl:WellAll P h vals args) :
  ∃ a vs ns,vals=[Value.ref a]/\args=[WData.list (ns.map WData.int)]/\h.get? a=some { cls:=.type "list",data:=.seq vs.toArray }/\IntsAre vs ns/\ns.length<=n:=by
 have hsh:WShape.hasAll [] args [.list .int]=true:=(pre_splitW hpre).1;have hc:l.pre.holds [] { args:=args }=true:=(pre_splitW hpre).2;obtain⟨d,r,rfl,h1,h2⟩:=hasAllW_cons hsh;obtain rfl:=hasAllW_nil h2;obtain⟨xs,rfl,h3⟩:=hasW_list h1;obtain⟨ns,rfl⟩:=items_int h3;have hlen:ns.length<=n:=by
  unfold OpenLaw.pre at hc;have h4:(WTm.not (.lt (.lit (.int (n:Int))) (.len (.arg 0)))).holds [] { args:=[.list (ns.map .int)] }=true:=by
   have h4:=(holds_andW hc).1;rw[hn] at h4;exact h4
  have h5:=condW_of h4 (w_not (w_lt w_lit (w_len_list (w_arg rfl))));rw[zAb] at h5;refine Nat.le_of_not_lt fun q=>?_;have q':(n:Int)<((ns.length:Nat):Int):=by lia
  first
   | (rw[decide_eq_true q'] at h5; exact absurd h5 (by decide))
   | (simp at h5; lia)
 cases hwl with
 | cons w1 w2=>
  cases w2
  cases w1 with
  | list ho hall=>exact⟨_,_,ns,rfl,rfl,ho,Qu ns _ hall,hlen⟩
theorem Y0 (l:OpenLaw) (args:List WData):l.row.toRowW.claim.post args (.bool true) args=true:=
 postW_of (r:=l.row.toRowW) (X:=(true==true))
  (show WShape.has [] (.bool true) .bool=true by first | rfl | decide | simp [WShape.has,WShape.arms,WShape.armsAll])
  (show (WTm.eq .res (.lit (.bool true))).value [] { args:=args,res:=some (.bool true),after:=args }=some (.bool (true==true)) from w_eq_bool (w_res rfl) w_lit) rfl
theorem attach_call {l:OpenLaw} {n:Nat} {q:Program} {loose:List Str} {XP:(Str->Option Value)->Heap->Prop} {YP:World->Heap->Prop} {d:DefRec}
  (hn:l.most=some n) (hdf:d.params.defaults=[])
  (call:∀ (w:World) (s₀ s₁ : Shared) (mg mb:Str->Option Value) (fa:Addr) (o:Obj) (pm cd doc:Value) (a:Addr) (vs:List Value) (ns:List Int),
   Ground q loose [] XP w s₀ mg mb s₁.heap->YP w s₁.heap ->
   s₁.heap.get? fa=some o->o.data = .func (docDef d.name d.params d.body d.scope pm cd doc)->s₁.heap.CodeRec cd d.name->mg d.name=some (.ref fa) ->
   s₁.heap.get? a=some { cls:=.type "list",data:=.seq vs.toArray }->IntsAre vs ns->ns.length<=n->s₁.gens = #[] ->
   codeAny (model l.prog w) callerA (.call (.ref fa) ⟨[.ref a],[]⟩) (fun r s'=>r = .ok (.ret (.bool true))/\OldK s₁.heap s'.heap/\s'.os=s₁.os/\AllBare s'.gens) s₁) :
  WalkO q loose XP YP l.row.toRowW d [] (fun f vs=>PySem.call f vs):=by
 intro w s₀ s₁ mg mb G Y fa o pm cd doc dV kV ho hd hcd hD hmg hg args vals as hpre hlay hrd hwl hlo;obtain rfl:dV = .none:=Dflts.none hD hdf;obtain rfl:kV = .none:=Dflts.noKw hD;obtain⟨a,vs,ns,rfl,rfl,hobj,hints,hlen⟩:=Z3 hn hpre hwl;refine enter_call (codeAny_mono (call w s₀ s₁ mg mb fa o pm cd doc a vs ns G Y ho (fd_plain hd) hcd hmg hobj hints hlen hg) fun r s' hq=>?_);obtain⟨rfl,h2,h3,h4⟩:=hq;exact⟨.inl ⟨.bool true,.bool true,[],rfl,fun _=>rfl,.bool true,Y0 l _,fun _=>⟨List.Pairwise.nil,fun _ hm=>(nomatch hm)⟩⟩,h2,h3,h4⟩
section
variable {prog:Program} {w:World} {A:Around} {E:Value->Shared->Prop} {s:Shared} {K:Frag}
end
end Att
namespace L2
open PySem PySem.Spec PyProof.Rows
theorem Wn:∀ {vs:List Value} {ns:List Int},IntsAre vs ns->Vals (ns.map V.int) vs
 | _,_,.nil=>.nil
 | _,_,.cons n t h=>.cons ⟨t,rfl⟩ (Wn h)
def KH (H:Hp):Prop:=∀ b,H b=none\/∃ o xs,H b=some (.frz o (.lst xs))
theorem BY {P:Program} {w:World} {K:zAa} {mg mb:Str->Option Value} {CX:AV} {k:Nat} {fa a:Addr} {fd:zCy} {x:Str} {sp:Sp} {s₁ : Shared} {vs:List Value} {ns:List Int}
  (KX:K.In s₁.heap) (hns:s₁.heap.Ns zCz mg) (hb:s₁.heap.Ns builtinsNs mb) (hbb:∀ x:Str,x ≠ "__name__" -> mb x=zCx x) (hlim:s₁.heap.NoLimit) (hg:s₁.gens = #[])
  (ha:s₁.heap.get? a=some { cls:=.type "list",data:=.seq vs.toArray }) (hi:IntsAre vs ns) (hl:ns.length<=sizeLine) (hr:Room k callerA)
  (F:∀ base:Heap,K.In base->base.Ns zCz mg->FnOk P w K mg base CX k fa fd [x] sp) (hbind:∀ (s:Shared) (u:Value),BindsTo s fd ⟨[u],[]⟩ [(x,u)])
  (hsp:∀ H:Hp,KH H->SqL K H a (ns.map V.int)->sp [.ref a] H (fun v _=>v = .bl true) fun _ _ _=>False)
  (hCX:∀ H e s',CX [] H s₁ (fun _ _ _=>False) e s'->False) :
  codeAny (model P w) callerA (.call (.ref fa) ⟨[.ref a],[]⟩) (fun r s'=>r = .ok (.ret (.bool true))/\OldK s₁.heap s'.heap/\s'.os=s₁.os/\AllBare s'.gens) s₁ := by
 have rv:=Wn hi;have lenV:=hi.length;have core:∀ H:Hp,KH H->SqL K H a (ns.map V.int)->HOk P w H s₁.heap->(∀ b,H b≠none->b=a)->(H a≠none->K.lookup a=none) ->
   codeAny (model P w) callerA (.call (.ref fa) ⟨[.ref a],[]⟩) (fun r s'=>r = .ok (.ret (.bool true))/\OldK s₁.heap s'.heap/\s'.os=s₁.os/\AllBare s'.gens) s₁ := by
  intro H hO hS hok hA hK;have base_of:∀ {b:Addr} {o:Obj},s₁.heap.get? b=some o->H b=none->(Zb s₁.heap H).get? b=some o:=fun e n=>DO e n;have noA:∀ {b:Addr} {o:Obj} {es:Array DictEntry} {ep:Nat},s₁.heap.get? b=some o->o.data = .dict es ep->H b=none:=fun {b o es ep} e d=>by
   cases q:H b with
   | none=>rfl
   | some u=>
    have e':b=a:=hA b (by rw[q]; simp);subst e';rw[ha] at e; cases e;have d':Data.seq vs.toArray _=Data.dict es ep:=d;cases d'
  have nsK:∀ {b:Addr} {m:Str->Option Value},s₁.heap.Ns b m->(Zb s₁.heap H).Ns b m:=fun {b m} ⟨o,es,ep,e,d,r⟩=>⟨o,es,ep,base_of e (noA e d),d,r⟩;have hKb:K.In (Zb s₁.heap H):=fun b o e=>base_of (KX b o e) (by
   cases q:H b with
   | none=>rfl
   | some u=>
    have e':b=a:=hA b (by rw[q]; simp);subst e';rw[hK (by rw[q]; simp)] at e; cases e)
  have hM:Mod K mg (Zb s₁.heap H):=⟨hKb,nsK hns,⟨mb,nsK hb,hbb⟩,let ⟨mc,h1,h2⟩:=hlim; ⟨mc,nsK h1,h2⟩⟩;have e0:Env0 P w K mg (Zb s₁.heap H) callerA [] s₁ H:=⟨rfl,hM,fun b o e=>HH e,Nat.le_of_eq (Z9 _ _),trivial,fun b hb=>absurd (show b∈([]:List Addr) from hb) (by simp),hok,.of_eq hg⟩;refine codeAny_mono ((F _ hKb (nsK hns)).run callerA [] s₁ H ⟨[.ref a],[]⟩ [.ref a] [.ref a] _ _ hr e0 (hbind s₁ (.ref a)) (.cons rfl .nil) (hsp H hO hS)) fun r s' h=>?_;cases r with
  | error e=>exact (hCX H e s' h).elim
  | ok fl=>
   cases fl with
   | next=>exact False.elim h
   | brk=>exact False.elim h
   | cont=>exact False.elim h
   | ret u=>
    obtain⟨v,H',os,bare,un,hok',r',q⟩:=h;have q':v = .bl true:=q;subst q';obtain rfl:u=Value.bool true:=r';refine⟨rfl,OldK.of_keep fun b o e=>?_,os,bare⟩;cases q:H b with
    | none=>exact un.keep b o e q (by intro z; exact absurd (show b∈([]:List Addr) from z) (by simp)) (by simp)
    | some u=>
     rcases hO b with z | ⟨ob,xs,z⟩
     ·rw[q] at z; cases z
     ·have z2:=un.frzs b ob _ z
      obtain⟨e1,_⟩:=hok b _ z;obtain⟨e2,_⟩:=hok' b _ z2;rw[e] at e1; cases e1;exact e2
 cases hk:K.lookup a with
 | some o=>
  have e:=KX a o hk;rw[ha] at e;cases e;refine core (fun _=>none) (fun _=>.inl rfl) (.inr ⟨_,vs.toArray,_,hk,rfl,rfl,rfl,by rw[zAh,lenV]; exact hl,by simpa using rv⟩) (fun b u z=>by have z':(none:Option HO)=some u:=z; cases z') (fun b z=>absurd rfl z) fun z=>absurd rfl z
 | none=>
  refine core (fun b=>if b=a then some (.frz { cls:=.type "list",data:=.seq vs.toArray } (.lst (ns.map V.int))) else none) (fun b=>?_) (.inl (.inr ⟨{ cls:=.type "list",data:=.seq vs.toArray },if_pos rfl⟩)) (fun b u z=>?_) (fun b z=>?_) fun _=>hk
  ·by_cases hb:b=a
   ·exact .inr ⟨_,_,if_pos hb⟩
   ·exact .inl (if_neg hb)
  ·by_cases hb:b=a
   ·have z':=(if_pos hb).symm.trans z
    cases z'
    subst hb;exact⟨ha,by rw[zAb]; exact hl,vs,_,rv,ha⟩
   ·have z':=(if_neg hb).symm.trans z
    cases z'
  ·by_cases hb:b=a
   ·exact hb
   ·exact absurd (if_neg hb) z
theorem walk_of {l:PySem.W.OpenLaw} {n k:Nat} {q:Program} {loose:List Str} {XP:(Str->Option Value)->Heap->Prop} {YP:World->Heap->Prop} {d:DefRec} {K:Params->zAa} {CX:World->AV} {sp:World->Sp} {x:Str}
  (hn:l.most=some n) (hn2:n<=sizeLine) (hdf:d.params.defaults=[]) (hr:Room k callerA)
  (hY:∀ (w:World) (h:Heap),YP w h->(K w.params).In h)
  (F:∀ (w:World) (mg:Str->Option Value) (fa:Addr) (h:Heap),(K w.params).In h->h.Ns zCz mg->mg d.name=some (.ref fa) ->
   ∃ fd:zCy,(∀ (s:Shared) (u:Value),BindsTo s fd ⟨[u],[]⟩ [(x,u)]) /\
    ∀ base:Heap,(K w.params).In base->base.Ns zCz mg->FnOk l.prog w (K w.params) mg base (CX w) k fa fd [x] (sp w))
  (hsp:∀ (w:World) (H:Hp) (a:Addr) (ns:List Int),ns.length<=n->KH H->SqL (K w.params) H a (ns.map V.int)->sp w [.ref a] H (fun v _=>v = .bl true) fun _ _ _=>False)
  (hCX:∀ (w:World) (H:Hp) (s:Shared) (e:Value) (s':Shared),CX w [] H s (fun _ _ _=>False) e s'->False) :
  PySem.W.WalkO q loose XP YP l.row.toRowW d [] (fun f vs=>PySem.call f vs):=by
 refine Att.attach_call hn hdf fun w s₀ s₁ mg mb fa o pm cd doc a vs ns G Y ho hd hcd hmg hobj hints hlen hg=>?_;have KX:=hY w _ Y;obtain⟨fd,hb,hF⟩:=F w mg fa _ KX G.T.g hmg;exact BY KX G.T.g G.T.b G.T.builtins G.T.nolimit hg hobj hints (zAE hlen hn2) hr hF hb (fun H hO hS=>hsp w H a ns hlen hO hS) fun H e s'=>hCX w H s₁ e s'
end L2
/- THE LAST THEOREM (shape; LID,My.* are yours):
   My.Adr: a structure of the addresses that your layer names (classes,functions); My.Txt K t: a structure (Prop) of the equations over K;
   My.txt_mk:{K} {implicit addresses ..} (e1:nsIn K zCz "law" = some (some (.ref f))) (e2:K.lookup f=some ⟨oc,od,.func (fnOf "law" "law" params body scope dV kV doc pm an cdv ct),sl⟩) (e3:codeIn K cdv "law" = true) .. : ∃ t,My.Txt K t
set_option tactic.hygienic true in
theorem PySem.Challenge.cw_LID_holds : PySem.Challenge.rw_LID.Holds := by
 w_on; o_law; k_head; (case hw=>w_witness2)
 k_fill
 refine L2.walk_of (l:=PySem.Challenge.rw_LID) (n:=63) (k:=40) (x := "script") (CX:=fun w=>..) (sp:=fun _=>My.sp_law) rfl (by decide) rfl ⟨rfl,by decide,by decide⟩ (fun w h Y=>PySem.W.kIn_of Y) ?F ?S ?C
 case F=>
  intro w mg fa h KX G hmg;have T:∃ t,My.Txt (L2.KOf KX) t:=by
   dsimp only [L2.KOf]                          -- K must stand as «<heap const> w.params» for k_is
   refine' My.txt_mk ?e1 ?e2 ?e3 ..
   (case e1=>PySem.W.k_is)                    -- in the order: a name -> its address -> its object -> its parts
   (case e2=>PySem.W.k_is)
   ..
  obtain⟨t,T⟩:=T;have e0:=hmg.symm.trans (zAx KX G T.law);cases e0                                       -- fa is the law's own address;exact⟨_,fun s u=>.of_eq rfl,fun base kb nb=>My.law_fn T kb nb⟩     -- if «.of_eq rfl» comes too early: refine' ⟨_,?b,fun base kb nb=>My.law_fn T kb nb⟩; exact fun s u=>.of_eq rfl
 case S=>exact fun w H a ns hl hO hS=>..
 case C=>exact ..
(the tactic k_is has no namespace: write k_is) -/
namespace L2
open PySem PySem.Spec PyProof.Rows
def Bw (s:Stmt) (j:Nat):Stmt:=match s with
 | .ClassDef _ _ _ body _ _ _ _ _ _ _=>body.getD j (.Pass ⟨0,0,0,0⟩)
 | _=>.Pass ⟨0,0,0,0⟩
def Dk (s:Stmt):Arguments:=match s with
 | .FunctionDef _ a _ _ _ _ _ _ _ _=>a
 | _=>{ posonlyargs:=[],args:=[],vararg:=none,kwonlyargs:=[],kw_defaults:=[],kwarg:=none,defaults:=[] }
def De (s:Stmt):List Stmt:=match s with
 | .FunctionDef _ _ b _ _ _ _ _ _ _=>b
 | _=>[]
def Ar (s:Stmt):Scope:=match s with
 | .FunctionDef _ _ _ _ _ _ sc _ _ _=>sc
 | _=>{ kind:=.function,names:=[],isGenerator:=false,isCoroutine:=false }
abbrev Da:AV:=fun _ _ _ _ _ _=>False
abbrev E0:XK:=fun _ _ _=>False
theorem Xe {X:Cx}:Mp Da X E0:=fun _ _ _ _ _ _ _ h=>h.elim
structure Fun (K:zAa) (x qual:Str) (st:Stmt) (f:Addr) (fd:zCy):Prop where
 ex:∃ (oc:Value) (od:Option Addr) (kV doc pm:Value) (an:Option Addr) (cdv ct:Value) (osl:Array (Option Value)),
  fd=zAV x qual (Dk st) (De st) (Ar st) .none kV doc pm an cdv ct/\K.lookup f=some ⟨oc,od,.func fd,osl⟩/\zBm K cdv qual=true
 kp:zAQ K (.ref f)=true
section
variable {P:Program} {w:World} {K:zAa} {mg:Str->Option Value} {base:Heap}
theorem Fun.ok {x qual:Str} {st:Stmt} {f:Addr} {fd:zCy} {N ps:List Str} {k:Nat} {sp:Sp} (F:Fun K x qual st f fd) (S:Bd N ps (Ar st)) (len:∀ vs H Q E,sp vs H Q E->vs.length=ps.length)
  (hbody:∀ (cdv:Value) (A:Around) (outer:List Env) (s:Shared) (H:Hp) (vs:List V) (Q:VK) (E:XK),Room k (A.deeper (envOfC qual (Ar st) s.heap.objs.size f cdv))->sp vs H Q E ->
   ∃ t,PSs (Q0 Da P w K mg base N qual (Ar st) f cdv A outer s H E).nox (De st) t/\t { nx:=fun _ H'=>Q .non H',rt:=Q } (Nz N vs) H):FnOk P w K mg base Da (k+1) f fd ps sp:=by
 obtain⟨oc,od,kV,doc,pm,an,cdv,ct,osl,rfl,lk,hcd⟩:=F.ex;refine IY lk hcd S len fun A outer s H vs Q E hr hsp=>?_;obtain⟨t,h,q⟩:=hbody cdv A outer s H vs Q E hr hsp;exact⟨t,h.nox,q⟩
theorem Fun.binds {x qual:Str} {st:Stmt} {f:Addr} {fd:zCy} {ps:List Str} (F:Fun K x qual st f fd)
  (h:∀ (kV doc pm:Value) (an:Option Addr) (cdv ct:Value) (us:List Value),us.length=ps.length->bindArgs (zAV x qual (Dk st) (De st) (Ar st) .none kV doc pm an cdv ct) ⟨us,[]⟩=pure (ps.zip us)):Binds K fd ps []:=by
 obtain⟨oc,od,kV,doc,pm,an,cdv,ct,osl,rfl,lk,hcd⟩:=F.ex;exact .all (h kV doc pm an cdv ct)
theorem K9 {x qual:Str} {st:Stmt} {f:Addr} {oc:Value} {od an:Option Addr} {osl:Array (Option Value)} {kV doc pm cdv ct:Value} (l:K.lookup f=some ⟨oc,od,.func (zAV x qual (Dk st) (De st) (Ar st) .none kV doc pm an cdv ct),osl⟩)
  (c:zBm K cdv qual=true) (k:zAQ K (.ref f)=true):Fun K x qual st f (zAV x qual (Dk st) (De st) (Ar st) .none kV doc pm an cdv ct):=⟨⟨oc,od,kV,doc,pm,an,cdv,ct,osl,rfl,l,c⟩,k⟩
end
theorem F2 {A:Around} {k:Nat} (hr:Room k A):A.units+1<cLine:=zCn (Nat.add_le_add_left (by decide:1<=64) _) hr.units
theorem AO {n:Nat} (h:n<=1000):n<sizeLine:=zCn h (by decide)
section
variable {X:Cx}
theorem pv (i:Nat) {x:Str} {pos:Pos} (hN:X.N[i]?=some x:=by rfl) (hv:PB X.env.scope x:=by first | exact Or.inl rfl | exact Or.inr (Or.inl rfl) | exact Or.inr (Or.inr rfl)) (hd:(x==("__debug__" : Str))=false:=by decide)
  (hcd:(x==("__classdict__" : Str))=false:=by decide):PE X (.Name x pos) (NH i):=JN hN hv hd hcd
end
theorem Dj {A B:Prop} (h:B):if false=true then A else B:=by
 rw[if_neg zAm];exact h
theorem Kb {A B:Prop} (h:A):if true=true then A else B:=by
 rw[if_pos rfl];exact h
theorem Qo {c A B:Prop} [Decidable c] (h1:c->A) (h2:¬ c->B):if c then A else B:=by
 by_cases h:c
 ·rw[if_pos h]
  exact h1 h
 ·rw[if_neg h]
  exact h2 h
def Same (H H':Hp):Prop:=∀ b o,H b=some o->H' b=some o
theorem Same.refl (H:Hp):Same H H:=fun _ _ h=>h
theorem Same.trans {H H1 H2:Hp} (a:Same H H1) (b:Same H1 H2):Same H H2:=fun c o h=>b c o (a c o h)
theorem Same.free {H H':Hp} (e:Same H H') {l:Addr} (h:H' l=Option.none):H l=Option.none:=by
 cases q:H l with
 | none=>rfl
 | some o=>
  rw[e l o q] at h;cases h
theorem Same.seq {K:zAa} {H H':Hp} {a:Addr} {xs:List V} (e:Same H H') (h:SqL K H a xs):SqL K H' a xs:=by
 rcases h with (h | ⟨o,h⟩) | h
 ·exact .inl (.inl (e _ _ h))
 ·exact .inl (.inr ⟨o,e _ _ h⟩)
 ·exact .inr h
section
variable {κ:Type} [DecidableEq κ]
def El (kvs:List (κ×V)) (k:κ):Option V:=(kvs.find? fun kv=>decide (kv.1=k)).map (·.2)
def Fh (kvs:List (κ×V)) (k:κ) (v:V):List (κ×V):=
 if (kvs.any fun kv=>decide (kv.1=k))=true then kvs.map (fun kv=>if kv.1=k then (kv.1,v) else kv) else kvs++[(k,v)]
theorem Eb {p:κ×V} {r:List (κ×V)} {k:κ} (e:p.1=k):El (p::r) k=some p.2:=by simp [El,zBM,e]
theorem Ea {p:κ×V} {r:List (κ×V)} {k:κ} (e:¬ p.1=k):El (p::r) k=El r k:=by simp [El,zBM,e]
theorem Nf (k:κ):∀ kvs:List (κ×V),(kvs.any fun kv=>decide (kv.1=k))=(El kvs k).isSome
 | []=>rfl
 | p::r=>by
  rw[zBE];by_cases e:p.1=k
  ·simp only [Eb e,decide_eq_true e,Bool.true_or,Option.isSome_some]
  ·rw[Ea e,decide_eq_false e,Bool.false_or]; exact Nf k r
theorem Zy (k j:κ) (y:V):∀ kvs:List (κ×V),El (kvs.map fun kv=>if kv.1=k then (kv.1,y) else kv) j=(El kvs j).map fun x=>if j=k then y else x
 | []=>rfl
 | p::r=>by
  have ih:=Zy k j y r;rw[zAK];by_cases h:p.1=k
  ·rw[if_pos h]
   by_cases e:p.1=j
   ·rw[Eb (p:=(p.1,y)) e,Eb e,zCl,if_pos (e.symm.trans h)]
   ·rw[Ea (p:=(p.1,y)) e,Ea e,ih]
  ·rw[if_neg h]
   by_cases e:p.1=j
   ·rw[Eb (p:=p) e,Eb e,zCl,if_neg (fun z=>h (e.trans z))]
   ·rw[Ea (p:=p) e,Ea e,ih]
theorem Vw (k j:κ) (y:V):∀ kvs:List (κ×V),El kvs k=none->El (kvs++[(k,y)]) j=if j=k then some y else El kvs j
 | [],_=>by
  by_cases e:k=j
  ·rw[if_pos e.symm]; exact Eb (p:=(k,y)) e
  ·rw[if_neg (fun z=>e z.symm)]; exact Ea (p:=(k,y)) e
 | p::r,hn=>by
  rw[zCt];have hk:¬ p.1=k:=fun z=>by rw[Eb z] at hn; cases hn
  rw[Ea hk] at hn;have ih:=Vw k j y r hn;by_cases e:p.1=j
  ·rw[Eb e,Eb e,if_neg (fun z=>hk (e.trans z))]
  ·rw[Ea e,Ea e,ih]
theorem Nr (kvs:List (κ×V)) (k j:κ) (y:V):El (Fh kvs k y) j=if j=k then some y else El kvs j:=by
 unfold Fh;by_cases a:(kvs.any fun kv=>decide (kv.1=k))=true
 ·rw[if_pos a,Zy]
  rw[Nf] at a;by_cases e:j=k
  ·obtain⟨x,hx⟩:=Option.isSome_iff_exists.mp a
   rw[if_pos e,e,hx,zCl,if_pos rfl]
  ·rw[if_neg e]
   cases El kvs j with
   | none=>rfl
   | some x=>rw[zCl,if_neg e]
 ·rw[if_neg a]
  refine Vw k j y kvs ?_;rw[Nf] at a;cases q:El kvs k with
  | none=>rfl
  | some x=>rw[q] at a; exact (a rfl).elim
theorem Hh (kvs:List (κ×V)) (k:κ) (v:V):(Fh kvs k v).length<=kvs.length+1:=by
 unfold Fh
 split
 ·rw[zAb]; lia
 ·rw[zAi,zAg,List.length_nil]; lia
theorem RelO.isSome_eq {o:Option V} {u:Option Value} (r:RelO o u):o.isSome=u.isSome:=by
 cases o with
 | none=>cases u with
  | none=>rfl
  | some _=>exact (show False from r).elim
 | some _=>cases u with
  | none=>exact (show False from r).elim
  | some _=>rfl
theorem RelO.getD {o:Option V} {u:Option Value} {d:V} {d':Value} (r:RelO o u) (rd:RelV d d'):RelV (o.getD d) (u.getD d'):=by
 cases o with
 | none=>cases u with
  | none=>exact rd
  | some _=>exact (show False from r).elim
 | some _=>cases u with
  | none=>exact (show False from r).elim
  | some _=>exact r
theorem KV.val {kvs:List (κ×V)} {vs:List (κ×Value)} (r:KV kvs vs) (k:κ):RelO (El kvs k) (valueAt vs k):=by
 unfold KV at r
 induction r with
 | nil=>exact True.intro
 | @cons p q ps qs h t ih=>
  obtain⟨h1,h2⟩:=h;by_cases e:p.1=k
  ·have e':q.1=k:=h1.symm.trans e
   have b:valueAt (q::qs) k=some q.2:=by simp [valueAt,zBM,e']
   rw[Eb e,b]; exact h2
  ·have e':¬ q.1=k:=fun z=>e (h1.trans z)
   have b:valueAt (q::qs) k=valueAt qs k:=by simp [valueAt,zBM,e']
   rw[Ea e,b]; exact ih
theorem KV.any {kvs:List (κ×V)} {vs:List (κ×Value)} (r:KV kvs vs) (k:κ):(kvs.any fun kv=>decide (kv.1=k))=vs.any fun kv=>decide (kv.1=k):=by
 unfold KV at r
 induction r with
 | nil=>rfl
 | cons h t ih=>rw[zBE,zBE,ih,h.1]
theorem KV.repl {kvs:List (κ×V)} {vs:List (κ×Value)} (r:KV kvs vs) (k:κ) {y:V} {u:Value} (ry:RelV y u) :
  KV (kvs.map fun kv=>if kv.1=k then (kv.1,y) else kv) (vs.map fun kv=>if kv.1=k then (kv.1,u) else kv):=by
 unfold KV at r ⊢
 induction r with
 | nil=>exact .nil
 | @cons p q ps qs h t ih=>
  rw[zAK,zAK];refine .cons ?_ ih;obtain⟨h1,h2⟩:=h;by_cases e:p.1=k
  ·rw[if_pos e,if_pos (h1.symm.trans e)]; exact⟨h1,ry⟩
  ·rw[if_neg e,if_neg (fun z=>e (h1.trans z))]; exact⟨h1,h2⟩
theorem KV.put {kvs:List (κ×V)} {vs:List (κ×Value)} (r:KV kvs vs) (k:κ) {y:V} {u:Value} (ry:RelV y u):KV (Fh kvs k y) (stored vs k u):=by
 unfold Fh stored;rw[r.any k];by_cases e:(vs.any fun kv=>decide (kv.1=k))=true
 ·rw[if_pos e,if_pos e]; exact r.repl k ry
 ·rw[if_neg e,if_neg e]; exact Paired.snoc r ⟨rfl,ry⟩
theorem KV.length {kvs:List (κ×V)} {vs:List (κ×Value)} (r:KV kvs vs):kvs.length=vs.length:=Paired.length r
end
theorem A3 {P:Program} {w:World} {k:Et} {u:Value} (r:RelV (kV k) u):(Dl P w).is k u=true:=by
 cases k with
 | inl i=>obtain⟨t,e⟩:=(show ∃ t,u=Value.int i t from r); subst e; exact F6 P w i t
 | inr x=>obtain⟨t,e⟩:=(show ∃ t,u=Value.str x t from r); subst e; exact F1 P w x t
theorem Wy {P:Program} {w:World}:∀ {ks:List Et} {us:List Value},Vals (ks.map kV) us->ItemsAre (Dl P w) ks us
 | [],_,r=>by rw[List.map_nil] at r; cases r; exact .nil
 | k::ks,_,r=>by
  rw[zAK] at r;cases r with
  | cons h t=>exact .cons (A3 h) (Wy t)
abbrev KT (H:Hp):List (List Et×V)->List (List Et×Addr×Value)->Prop:=Paired fun p q=>p.1=q.1/\H q.2.1=some (.tup (p.1.map kV))/\RelV p.2 q.2.2
theorem KT.val {H:Hp} {kvs:List (List Et×V)} {xs:List (List Et×Addr×Value)} (r:KT H kvs xs) (k:List Et):RelO (El kvs k) ((atKey xs k).map (·.2)):=by
 induction r with
 | nil=>exact True.intro
 | @cons p q ps qs h t ih=>
  obtain⟨h1,_,h2⟩:=h;by_cases e:p.1=k
  ·have e':q.1=k:=h1.symm.trans e
   have b:atKey (q::qs) k=some q.2:=by simp [atKey,zBM,e']
   rw[Eb e,b]; exact h2
  ·have e':¬ q.1=k:=fun z=>e (h1.trans z)
   have b:atKey (q::qs) k=atKey qs k:=by simp [atKey,zBM,e']
   rw[Ea e,b]; exact ih
theorem KT.repl {H:Hp} {kvs:List (List Et×V)} {xs:List (List Et×Addr×Value)} (r:KT H kvs xs) (k:List Et) {y:V} {u:Value} (ry:RelV y u) :
  KT H (kvs.map fun kv=>if kv.1=k then (kv.1,y) else kv) (xs.map (putAt k u)):=by
 induction r with
 | nil=>exact .nil
 | @cons p q ps qs h t ih=>
  rw[zAK,zAK];refine .cons ?_ ih;obtain⟨h1,h2,h3⟩:=h;unfold putAt;by_cases e:p.1=k
  ·rw[if_pos e,if_pos (h1.symm.trans e)]; exact⟨h1,h2,ry⟩
  ·rw[if_neg e,if_neg (fun z=>e (h1.trans z))]; exact⟨h1,h2,h3⟩
theorem KT.put {H:Hp} {kvs:List (List Et×V)} {xs:List (List Et×Addr×Value)} (r:KT H kvs xs) (k:List Et) {b:Addr} {y:V} {u:Value} (hb:H b=some (.tup (k.map kV))) (ry:RelV y u) :
  KT H (Fh kvs k y) (storedH xs k b u):=by
 have e:(kvs.any fun kv=>decide (kv.1=k))=(atKey xs k).isSome:=by
  rw[Nf,(r.val k).isSome_eq,Option.isSome_map]
 unfold Fh storedH;rw[e];by_cases q:(atKey xs k).isSome=true
 ·rw[if_pos q,if_pos q]; exact r.repl k ry
 ·rw[if_neg q,if_neg q]; exact Paired.snoc r ⟨rfl,hb,ry⟩
theorem KT.keeps {H H':Hp} {kvs:List (List Et×V)} {xs:List (List Et×Addr×Value)} (r:KT H kvs xs) (ht:∀ b ys,H b=some (.tup ys)->H' b=some (.tup ys)):KT H' kvs xs:=
 Paired.mapP r fun _ _ z=>⟨z.1,ht _ _ z.2.1,z.2.2⟩
section
variable {P:Program} {w:World} {H:Hp} {h:Heap} {a:Addr}
theorem IE {u:HO} (ok:HOk P w H h) (e:Rd H a u):ObjOk P w H h a u:=e.ok ok
theorem Wh {kvs:List (Et×V)} (ok:HOk P w H h) (e:Rd H a (.dK kvs)):kvs.length<=sizeLine/\(a==sysModules)=false/\∃ vs,KV kvs vs/\h.DictOf (Dl P w) a vs:=
 show ObjOk P w H h a (.dK kvs) from IE ok e
theorem NI {kvs:List (Et×V)} (ok:HOk P w H h) (e:H a=some (.dK kvs)):kvs.length<=sizeLine/\(a==sysModules)=false/\∃ vs,KV kvs vs/\h.DictOf (Dl P w) a vs:=Wh ok (.inl e)
theorem Te {ks:List Et} (ok:HOk P w H h) (e:H a=some (.tup (ks.map kV))):(tupleKind (Dl P w)).is h ks a:=by
 obtain⟨_,its,r,o,h1,h2,n,h3⟩:=(show ObjOk P w H h a (.tup (ks.map kV)) from ok a _ e);exact⟨o,its.toArray,n,h1,h2,h3,by simpa using Wy r⟩
theorem Wd {kvs:List (List Et×V)} (ok:HOk P w H h) (e:Rd H a (.dT kvs)):kvs.length<=sizeLine/\(a==sysModules)=false /\
  ∃ xs,KT H kvs xs/\h.DictOfH (tupleKind (Dl P w)) a xs:=by
 obtain⟨z,y,xs,r,o,es,ep,h1,h2,h3,h4,h5⟩:=(show ObjOk P w H h a (.dT kvs) from IE ok e);refine⟨z,y,xs,r,o,es,ep,h1,h2,h3,h4,fun x hx=>?_,h5⟩;have all:∀ {l:List (List Et×V)} {m:List (List Et×Addr×Value)},KT H l m->∀ x∈m,(tupleKind (Dl P w)).is h x.1 x.2.1:=by
  intro l m q
  induction q with
  | nil=>intro x hx; exact nomatch hx
  | @cons p q ps qs hq t ih=>
   intro x hx;rcases zAn.mp hx with e | hx
   ·subst e
    exact Te ok (by rw[<- hq.1]; exact hq.2.1)
   ·exact ih x hx
 exact all r x hx
theorem MR {kvs:List (List Et×V)} (ok:HOk P w H h) (e:H a=some (.dT kvs)):kvs.length<=sizeLine/\(a==sysModules)=false /\
  ∃ xs,KT H kvs xs/\h.DictOfH (tupleKind (Dl P w)) a xs:=Wd ok (.inl e)
end
def DGet (H:Hp) (a:Addr) (y:V) (r:Option V):Prop:=
 (∃ kvs k,Rd H a (.dK kvs)/\y=kV k/\r=El kvs k)\/∃ kvs k b,Rd H a (.dT kvs)/\y = .ref b/\H b=some (.tup (k.map kV))/\r=El kvs k
def DPut (H:Hp) (a:Addr) (y v:V) (H':Hp):Prop:=
 (∃ kvs k,H a=some (.dK kvs)/\y=kV k/\kvs.length<sizeLine/\H'=upd H a (.dK (Fh kvs k v))) \/
 ∃ kvs k b,H a=some (.dT kvs)/\y = .ref b/\H b=some (.tup (k.map kV))/\kvs.length<sizeLine/\H'=upd H a (.dT (Fh kvs k v))
theorem DGet.t {H:Hp} {a b:Addr} {kvs:List (List Et×V)} {k:List Et} (e:H a=some (.dT kvs)) (eb:H b=some (.tup (k.map kV))):DGet H a (.ref b) (El kvs k):=.inr ⟨kvs,k,b,.inl e,rfl,eb,rfl⟩
theorem DPut.t {H:Hp} {a b:Addr} {kvs:List (List Et×V)} {k:List Et} {v:V} (e:H a=some (.dT kvs)) (eb:H b=some (.tup (k.map kV))) (hl:kvs.length<sizeLine) :
  DPut H a (.ref b) v (upd H a (.dT (Fh kvs k v))):=.inr ⟨kvs,k,b,e,rfl,eb,hl,rfl⟩
section
variable {X:Cx} {pins:List (Addr×Obj)} {σ:St} {H:Hp} {s:Shared} {a:Addr} {y v:V} {u r:Value} {o:Option V} {A:Around} {E:Value->Shared->Prop}
theorem Inv.big (I:Inv X pins σ H s):sysModules<s.heap.objs.size:=by
 have h:zCz<s.heap.objs.size:=(I.mod.glob.keeps I.bk).lt;exact Nat.lt_trans (by decide) h
theorem Y2 {Q:Value->Shared->Prop} (hu:A.units+1<cLine) (I:Inv X pins σ H s) (g:DGet H a y (some v)) (ry:RelV y u) (h:∀ w' s',Inv X pins σ H s'->RelV v w'->Q w' s') :
  wpAny (model X.prog X.w) A (getItem (.ref a) u) Q E s:=by
 rcases g with ⟨kvs,k,e,ey,l⟩ | ⟨kvs,k,b,e,ey,eb,l⟩
 ·subst ey
  obtain⟨z,hd,vs,rel,dd⟩:=Wh I.hok e;obtain⟨w',hw,rw'⟩:=RelO.some_of (v:=v) (o:=valueAt vs k) (by rw[l]; exact rel.val k);exact wpAny_getItem_of (A3 ry) dd.mapOf hw (h w' _ (I.tok _) rw')
 ·subst ey
  cases (show u=Value.ref b from ry)
  obtain⟨z,hd,xs,rel,dd⟩:=Wd I.hok e;obtain⟨w',hw,rw'⟩:=RelO.some_of (v:=v) (o:=(atKey xs k).map (·.2)) (by rw[l]; exact rel.val k);obtain⟨p,hp,hp2⟩:=zAI.mp hw;refine wpAny_getItem_heap (tupleKind_room_in1 hu) (Te I.hok eb) dd hp ?_;rw[hp2];exact h w' _ (I.tok _) rw'
theorem HV {Q:Value->Shared->Prop} (hu:A.units+1<cLine) (I:Inv X pins σ H s) (g:DGet H a y o) (ry:RelV y u) (h:∀ s',Inv X pins σ H s'->Q (.bool (!o.isSome)) s') :
  wpAny (model X.prog X.w) A (compareOp .NotIn u (.ref a)) Q E s:=by
 rcases g with ⟨kvs,k,e,ey,l⟩ | ⟨kvs,k,b,e,ey,eb,l⟩
 ·subst ey
  obtain⟨z,hd,vs,rel,dd⟩:=Wh I.hok e;refine wpAny_notIn_of (A3 ry) hd dd.mapOf ?_;rw[<- (rel.val k).isSome_eq,<- l];exact h _ (I.tok _)
 ·subst ey
  cases (show u=Value.ref b from ry)
  obtain⟨z,hd,xs,rel,dd⟩:=Wd I.hok e;refine wpAny_notIn_heap (tupleKind_room_in1 hu) (Te I.hok eb) hd dd ?_;have q:=(rel.val k).isSome_eq;rw[Option.isSome_map] at q;rw[<- q,<- l];exact h _ (I.tok _)
theorem W2 {h':Heap} {t':Nat} {ob:HO} (I:Inv X pins σ H s) (mu:NO (H a)) (hs:zBg a s.heap h') (he:∃ q,h'.get? a=some q) (new:ObjOk X.prog X.w (upd H a ob) h' a ob) :
  Inv X pins σ (upd H a ob) { s with heap:=h',toks:=t' }:=
 I.write (x:=a) (e:=a) mu (.inl rfl) (fun b q hb z=>(hs.2 b hb).trans z) he new
theorem KZ {P:Program} {w:World} {H':Hp} {h':Heap} {kvs:List (Et×V)} {vs:List (Et×Value)} (z:kvs.length<=sizeLine) (hd:(a==sysModules)=false) (rel:KV kvs vs) (dd:h'.DictOf (Dl P w) a vs) :
  ObjOk P w H' h' a (.dK kvs):=⟨z,hd,vs,rel,dd⟩
theorem AY {H':Hp} {Q:Unit->Shared->Prop} (hu:A.units+1<cLine) (I:Inv X pins σ H s) (g:DPut H a y v H') (ry:RelV y u) (rv:RelV v r) (h:∀ s',Inv X pins σ H' s'->Q () s') :
  wpAny (model X.prog X.w) A (setItem (.ref a) u r) Q E s:=by
 rcases g with ⟨kvs,k,e,ey,l,eH⟩ | ⟨kvs,k,b,e,ey,eb,l,eH⟩
 ·subst ey eH
  obtain⟨z,hd,vs,rel,dd⟩:=NI I.hok e;have hz:vs.length<=sizeLine:=by rw[<- rel.length]; exact z
  have hl:(Fh kvs k v).length<=sizeLine:=by have:=Hh kvs k v; lia
  refine wpAny_setItem_pairs (hsz:=hz) (A3 ry) dd fun h' dd' hs=>h _ ?_;have he:∃ q,h'.get? a=some q:=let ⟨q,_,_,hq,_⟩:=dd'; ⟨q,hq⟩
  exact W2 I (by rw[e]; exact True.intro) hs he (KZ hl hd (rel.put k rv) dd')
 ·subst ey eH
  cases (show u=Value.ref b from ry)
  obtain⟨z,hd,xs,rel,dd⟩:=MR I.hok e;have hz:xs.length<=sizeLine:=by rw[<- Paired.length rel]; exact z
  have hl:(Fh kvs k v).length<=sizeLine:=by have:=Hh kvs k v; lia
  refine wpAny_setItem_heap (hsz:=hz) (tupleKind_room_in1 hu) (Te I.hok eb) dd fun h' dd' hs=>h _ ?_;obtain⟨q,es,ep,hq,h2,h3,h4,_,h5⟩:=dd';refine W2 I (by rw[e]; exact True.intro) hs ⟨q,hq⟩ ⟨hl,hd,_,(rel.put k eb rv).keeps fun c ys ec=>?_,q,es,ep,hq,h2,h3,h4,h5⟩;rw[Aw (Eu ec e (fun z=>nomatch z))];exact ec
end
section
variable {X:Cx} {pins:List (Addr×Obj)} {σ:St} {H:Hp} {s:Shared} {a:Addr} {kvs:List (Et×V)} {k:Et} {u:Value} {A:Around} {E:Value->Shared->Prop}
end
def NQ (i:Expr):Prop:=∀ ov iv,subscripted i false ov iv=operate [ov,iv] (getItem ov iv)
theorem FV {prog:Program} {w:World} {A:Around} {E:Value->Shared->Prop} {s:Shared} {env:Env} {value slice:Expr} {pos:Pos} {T id:String} {Q:Value->Shared->Prop}
  (hl:typeLookup (.type T) "__getitem__" = pure (some (.builtin id))) (hs:NQ slice)
  (h:wpAny (model prog w) A (eval value env) (fun o s₁ => wpAny (model prog w) A (eval slice env) (fun i s₂ => s₂.TypeIs o T/\wpAny (model prog w) A (getItem o i) Q E s₂) E s₁) E s) :
  wpAny (model prog w) A (eval (.Subscript value slice pos) env) Q E s:=by
 refine Subscript_ (wpAny_mono h (fun o s₁ h₁ => wpAny_mono h₁ (fun i s₂ h₂ => ?_) fun _ _ x=>x) fun _ _ x=>x);obtain⟨hT,h₂⟩:=h₂;unfold subscriptTail;refine zCu ?_;rw[getitemInPython_of_ne hT.not_modules];refine zCu (wpAny_specialOf hT hl ?_);have fin:wpAny (model prog w) A (subscripted slice false o i) (fun r s₃ => wpAny (model prog w) A (letTemporaryGo value o r >>= fun _=>pure r) Q E s₃) E s₂ := by
  rw[hs o i];exact wpAny_operating (wpAny_mono h₂ (fun r s₃ h₃ => zCu (wpAny_letTemporaryGo (zCv h₃))) fun _ _ x=>x)
 first
  | exact zCv (zCu fin)
  | exact zCu (zCv (zCu fin))
  | exact zCu fin
theorem C9 {X:Cx} {pins:List (Addr×Obj)} {σ:St} {H:Hp} {s:Shared} {a:Addr} {y:V} {o:Option V} (I:Inv X pins σ H s) (g:DGet H a y o):s.TypeIs (.ref a) "dict" := by
 rcases g with ⟨kvs,k,e,_,_⟩ | ⟨kvs,k,b,e,_,_,_⟩
 ·obtain⟨_,_,vs,_,dd⟩:=Wh I.hok e
  exact dd.typeIs
 ·obtain⟨_,_,xs,_,dd⟩:=Wd I.hok e
  exact dd.typeIs
def MO (td ty:TE):TE:=fun σ H Q=>td σ H fun x H1=>ty σ H1 fun y H2=>∃ a v,x = .ref a/\DGet H2 a y (some v)/\Q v H2
def IB (ty td:TE):TE:=fun σ H Q=>ty σ H fun y H1=>td σ H1 fun x H2=>∃ a o,x = .ref a/\DGet H2 a y o/\Q (.bl (!o.isSome)) H2
def NL (td ty tv:TE):TS:=fun D σ H=>tv σ H fun v H1=>td σ H1 fun x H2=>ty σ H2 fun y H3=>∃ a H4,x = .ref a/\DPut H3 a y v H4/\D.nx σ H4
section
variable {X:Cx} {o i e value:Expr} {pos pos' tpos:Pos} {td ty tv:TE}
theorem GT (hu:X.A.units+1<cLine) (ho:PE X o td) (hi:PE X i ty) (hs:NQ i):PE X (.Subscript o i pos) (MO td ty):=by
 intro pins s σ H Q I h;refine FV PySem.F.slot_dict_getitem.lookup hs (Db (ho pins s σ H _ I h) fun u s1 ⟨x,H1,I1,rx,q1⟩=>Db (hi pins s1 σ H1 _ I1 q1) fun iv s2 ⟨y,H2,I2,ry,a,v,ex,g,q2⟩=>?_);subst ex;obtain rfl:u=Value.ref a:=rx;exact⟨C9 I2 g,Y2 hu I2 g ry fun w' s3 I3 rw'=>⟨v,H2,I3,rw',q2⟩⟩
theorem AL (hu:X.A.units+1<cLine) (hi:PE X i ty) (ho:PE X o td):PC X .NotIn i o (IB ty td):=by
 intro pins s σ H Q I h;refine Db (hi pins s σ H _ I h) fun iv s1 ⟨y,H1,I1,ry,q1⟩=>Db (ho pins s1 σ H1 _ I1 q1) fun u s2 ⟨x,H2,I2,rx,a,ov,ex,g,q2⟩=>?_;subst ex;obtain rfl:u=Value.ref a:=rx;exact HV hu I2 g ry fun s3 I3=>⟨.bl (!ov.isSome),H2,I3,rfl,q2⟩
theorem Zv (hu:X.A.units+1<cLine) (ho:PE X o td) (hi:PE X i ty) (hv:PE X value tv) (hs:swapsWith value (some (.Subscript o i pos')) pos.line X.env=pure false) :
  PS X (.Assign [.Subscript o i pos'] value pos) (NL td ty tv):=by
 intro pins s σ H D I h;refine wpAny_Assign_Subscript (Db (hv pins s σ H _ I h) fun r s1 ⟨v,H1,I1,rv,q1⟩=>Db (ho pins s1 σ H1 _ I1 q1) fun u s2 ⟨x,H2,I2,rx,q2⟩=>Db (hi pins s2 σ H2 _ I2 q2) fun iv s3 ⟨y,H3,I3,ry,a,H4,ex,g,q3⟩=>?_) hs;subst ex;obtain rfl:u=Value.ref a:=rx;exact AY hu I3 g ry rv fun s4 I4=>⟨σ,H4,I4,q3⟩
end
theorem ET {P:Program} {w:World} {H:Hp} (h:Heap) (hb:sysModules<h.objs.size):ObjOk P w H (h.push { cls:=.type "dict",data:=.dict #[] }) h.objs.size (.dT []):=
 ⟨zAA _,beq_eq_false_iff_ne.mpr (Ne.symm (zAu hb)),[],.nil,_,#[],0,zAy _ rfl,⟨rfl,rfl,rfl⟩,rfl,rfl,List.nodup_nil⟩
def LJ:TE:=fun _ H Q=>∀ p,H p=none->Q (.ref p) (upd H p (.dT []))
section
variable {X:Cx} {pos:Pos}
theorem Rl:PE X (.Dict [] [] pos) LJ:=fun pins s σ H Q I h=>
 wpAny_Dict_empty ⟨.ref s.heap.objs.size,_,I.laid (a:=s.heap.objs.size) (o:=.dT []) (t':=s.toks) (fun _ _ q=>zAf _ q) (zAl _) (ET s.heap I.big),rfl,h _ (I.hok.fresh (zAl _))⟩
end
structure M2 (X:Cx) (o:Expr) (m:Str) (apos:Pos) (e f:Expr) (cpos:Pos):Prop where
 base:attributeBase o m X.env (eval o X.env)=eval o X.env
 few:((backTo cpos (starEach [e,f] X.env)).all (fun x => !x.1)&&(backToKw cpos (keywordEach [] X.env)).all (fun x=>x.1.isSome)
  && decide (([e,f]:List Expr).length+([]:List Keyword).length+(if ([]:List Keyword).isEmpty then 0 else 1)<30))=true
 line:(apos.endLine==cpos.line)=true
 trees:backTo cpos (starEach [e,f] X.env)=[(false,eval e X.env),(false,eval f X.env)]
def QI (H:Hp) (a:Addr):Prop:=(∃ kvs,Rd H a (.dK kvs))\/∃ kvs,Rd H a (.dT kvs)
theorem KI {X:Cx} {pins:List (Addr×Obj)} {σ:St} {H:Hp} {s:Shared} {a:Addr} (I:Inv X pins σ H s) (d:QI H a) :
  s.TypeIs (.ref a) "dict"/\(∀ b,Value.ref a = .ref b->∃ ob,s.heap.get? b=some ob/\ob.dict=none)/\(a==sysModules)=false:=by
 rcases d with ⟨kvs,e⟩ | ⟨kvs,e⟩
 ·obtain⟨_,hd,vs,_,dd⟩:=Wh I.hok e
  refine⟨dd.typeIs,fun b q=>?_,hd⟩;cases q;obtain⟨ob,_,_,h1,h2,_⟩:=dd;exact⟨ob,h1,h2.2.1⟩
 ·obtain⟨_,hd,xs,_,dd⟩:=Wd I.hok e
  refine⟨dd.typeIs,fun b q=>?_,hd⟩;cases q;obtain⟨ob,_,_,h1,h2,_⟩:=dd;exact⟨ob,h1,h2.2.1⟩
section
variable {X:Cx} {pins:List (Addr×Obj)} {σ:St} {H:Hp} {s:Shared} {a:Addr} {y d:V} {u r:Value} {o:Option V} {A:Around} {E:Value->Shared->Prop}
theorem JZ {Q:Value->Shared->Prop} (hu:A.units+1<cLine) (I:Inv X pins σ H s) (g:DGet H a y o) (ry:RelV y u) (rd:RelV d r) (h:∀ w' s',Inv X pins σ H s'->RelV (o.getD d) w'->Q w' s') :
  wpAny (model X.prog X.w) A (call (.builtin "dict.get") [.ref a,u,r]) Q E s:=by
 rcases g with ⟨kvs,k,e,ey,l⟩ | ⟨kvs,k,b,e,ey,eb,l⟩
 ·subst ey
  obtain⟨z,hd,vs,rel,dd⟩:=Wh I.hok e;refine call_meetsIn PySem.F.slot_dict_get dd.typeIs PySem.F.entry_dict_get (PySem.F.args_dict_get_3 _ _ _) (meets_dict_get_default (Dl X.prog X.w) a (A3 ry) hd r) ⟨_,dd.mapOf,h _ _ (I.tok _) ?_⟩;rw[l];exact (rel.val k).getD rd
 ·subst ey
  cases (show u=Value.ref b from ry)
  obtain⟨z,hd,xs,rel,dd⟩:=Wd I.hok e;refine call_meetsIn PySem.F.slot_dict_get dd.typeIs PySem.F.entry_dict_get (PySem.F.args_dict_get_3 _ _ _) (meetsH_dict_get_default (tupleKind (Dl X.prog X.w)) a b hd r) ⟨tupleKind_room_in1 hu,k,xs,Te I.hok eb,dd,h _ _ (I.tok _) ?_⟩;rw[l];exact (rel.val k).getD rd
end
def KF (td ty tx:TE):TE:=fun σ H Q=>td σ H fun x H1=>∃ a,x = .ref a/\QI H1 a/\ty σ H1 fun y H2=>tx σ H2 fun z H3=>∃ o,DGet H3 a y o/\Q (o.getD z) H3
section
variable {X:Cx} {o e f:Expr} {apos cpos:Pos} {td ty tx:TE}
theorem Si (hu:X.A.units+1<cLine) (ho:PE X o td) (he:PE X e ty) (hf:PE X f tx) (m:M2 X o "get" apos e f cpos):PE X (.Call (.Attribute o "get" apos) [e,f] [] cpos) (KF td ty tx):=by
 intro pins s σ H Q I h;refine wpAny_Call_method m.base m.few m.line PySem.F.plainAttrs_dict PySem.F.slot_dict_get PySem.F.type_dict_get (Db (ho pins s σ H _ I h) fun u s1 ⟨x,H1,I1,rx,a,ex,d,q1⟩=>?_);subst ex;obtain rfl:u=Value.ref a:=rx;obtain⟨t1,t2,_⟩:=KI I1 d;refine⟨t1,t2,?_⟩;rw[m.trees];refine Calls.callWith_builtin rfl (Calls.evalArgs_plain (Calls.spliced_cons (Db (he pins s1 σ H1 _ I1 q1) fun iv s2 ⟨y,H2,I2,ry,q2⟩=>
  Calls.spliced_cons (Db (hf pins s2 σ H2 _ I2 q2) fun fv s3 ⟨z,H3,I3,rz,ov,g,q3⟩=>Calls.spliced_nil ?_))))
 exact JZ hu I3 g ry rz fun w' s4 I4 rw'=>⟨_,H3,I4,rw',q3⟩
end
section
variable {X:Cx} {pins:List (Addr×Obj)} {σ:St} {H:Hp} {s:Shared} {a:Addr} {kvs:List (Et×V)} {A:Around} {E:Value->Shared->Prop}
end
section
variable {X:Cx} {pins:List (Addr×Obj)} {σ:St} {H:Hp} {s:Shared} {a:Addr} {y:V} {u:Value} {A:Around} {E:Value->Shared->Prop}
end
section
variable {X:Cx}
end
section
variable {κ:Type} [DecidableEq κ]
end
def W8 (cells:List (Str×Addr)):List (Str×NameKind)->List (Str×Addr)->List (Str×Addr)
 | [],cs=>cs
 | (n,k)::r,cs=>W8 cells r (if k==NameKind.free then (match cells.lookup n with | some a=>(n,a)::cs | none=>cs) else cs)
theorem B1 {env:Env}:∀ (names:List (Str×NameKind)) (cs:List (Str×Addr)),(∀ y∈names,y.2 = .free->∃ c,env.cells.lookup y.1=some c) ->
  (forIn names cs fun (x:Str×NameKind) (r:List (Str×Addr))=>if (x.2==NameKind.free)=true then (do let a <- cellOf env x.1; pure (ForInStep.yield ((x.1,a)::r))) else (pure (ForInStep.yield r):Sem (ForInStep (List (Str×Addr)))))
   = (pure (W8 env.cells names cs):Sem (List (Str×Addr)))
 | [],cs,_=>rfl
 | (n,k)::r,cs,h=>by
  have ih:=B1 (env:=env) r;rw[List.forIn_cons];unfold W8;cases hk:(k==NameKind.free) with
  | false=>
   simp only [zBN,if_false];show (forIn r cs _:Sem _)=_;exact ih cs fun y hy=>h y (zAd _ hy)
  | true=>
   obtain⟨c,hc⟩:=h (n,k) zAk (by simpa using hk);have hc':env.cells.lookup n=some c:=hc;have e:cellOf env n=pure c:=by unfold cellOf; rw[hc']
   simp only [if_true,e,hc'];show (forIn r ((n,c)::cs) _:Sem _)=_;exact ih _ fun y hy=>h y (zAd _ hy)
theorem BH {scope:Scope} {env:Env} (h:∀ y∈scope.names,y.2 = .free->∃ c,env.cells.lookup y.1=some c):closureFor scope env=pure (W8 env.cells scope.names []):=by
 unfold closureFor;have q:=B1 (env:=env) scope.names [] h;refine Eq.trans ?_ (congrArg (fun z:Sem (List (Str×Addr))=>z >>= fun cs=>pure cs) q);rfl
set_option tactic.hygienic true in
theorem U2 {cells:List (Str×Addr)}:∀ (names:List (Str×NameKind)) (cs:List (Str×Addr)),(∀ p∈cs,cells.lookup p.1=some p.2)->∀ p∈W8 cells names cs,cells.lookup p.1=some p.2
 | [],cs,h,p,hp=>h p hp
 | (n,k)::r,cs,h,p,hp=>by
  unfold W8 at hp;refine U2 r _ (fun q hq=>?_) p hp
  split at hq
  ·split at hq
   ·rename_i a e
    rcases zAn.mp hq with rfl | hq
    ·exact e
    ·exact h q hq
   ·exact h q hq
  ·exact h q hq
theorem Iv {cells:List (Str×Addr)} {names:List (Str×NameKind)} {x:Str} {c:Addr} (e:(W8 cells names []).lookup x=some c):cells.lookup x=some c:=
 U2 names [] (fun _ z=>nomatch z) (x,c) (PySem.mem_of_lookup e)
theorem We {cells:List (Str×Addr)}:∀ (names:List (Str×NameKind)) (cs:List (Str×Addr)) (p:Str×Addr),p∈cs->p∈W8 cells names cs
 | [],cs,p,hp=>hp
 | (n,k)::r,cs,p,hp=>by
  unfold W8;refine We r _ p ?_
  split
  ·split
   ·exact zAd _ hp
   ·exact hp
  ·exact hp
theorem Xx {cells:List (Str×Addr)} {x:Str} {c:Addr} (hc:cells.lookup x=some c):∀ (names:List (Str×NameKind)) (cs:List (Str×Addr)),(x,NameKind.free)∈names->(x,c)∈W8 cells names cs
 | [],_,h=>nomatch h
 | (n,k)::r,cs,h=>by
  unfold W8;rcases zAn.mp h with e | h
  ·cases e
   refine We r _ _ ?_;rw[hc];simp
  ·exact Xx hc r _ h
theorem Ek {x:Str} {c:Addr}:∀ {l:List (Str×Addr)},(x,c)∈l->∃ d,l.lookup x=some d
 | [],h=>nomatch h
 | (y,d)::r,h=>by
  rw[zBA];cases e:(x==y) with
  | true=>exact⟨d,rfl⟩
  | false=>
   rcases zAn.mp h with z | z
   ·cases z
    simp at e
   ·exact Ek z
theorem Jj {env:Env}:∀ {names:List (Str×NameKind)} {x:Str} {k:NameKind},
  (names.map fun (n,k)=>if (k==NameKind.free&&env.scope.kind == .function&&env.kindOf n==some .cell) then (n,NameKind.cell) else (n,k)).lookup x=some k ->
   names.lookup x=some k\/(k = .cell/\names.lookup x=some .free)
 | [],_,_,h=>by simp at h
 | (n,k0)::r,x,k,h=>by
  have ih:=@Jj env r x k;rw[zAK] at h;rw[zBA];by_cases c:(k0==NameKind.free&&env.scope.kind == .function&&env.kindOf n==some .cell)=true
  ·have h':=h
   simp only [c,if_true] at h';rw[zBA] at h';cases e:(x==n) with
   | true=>
    rw[e] at h';have c1:k0 = .free:=by
     simp only [zAv] at c
     simpa using c.1.1
    refine .inr ⟨(Option.some.inj h').symm,?_⟩;rw[c1]
   | false=>
    rw[e] at h';exact ih h'
  ·have h':=h
   simp only [c,zBN,if_false] at h';rw[zBA] at h';cases e:(x==n) with
   | true=>
    rw[e] at h';exact .inl h'
   | false=>
    rw[e] at h';exact ih h'
theorem Nx {env:Env}:∀ {names:List (Str×NameKind)} {x:Str},names.lookup x=some .free ->
  (names.map fun (n,k)=>if (k==NameKind.free&&env.scope.kind == .function&&env.kindOf n==some .cell) then (n,NameKind.cell) else (n,k)).lookup x=some .cell \/
  (names.map fun (n,k)=>if (k==NameKind.free&&env.scope.kind == .function&&env.kindOf n==some .cell) then (n,NameKind.cell) else (n,k)).lookup x=some .free
 | [],_,h=>by simp at h
 | (n,k0)::r,x,h=>by
  have ih:=@Nx env r x;rw[zAK];rw[zBA] at h;by_cases c:(k0==NameKind.free&&env.scope.kind == .function&&env.kindOf n==some .cell)=true
  ·simp only [c,if_true,zBA]
   cases e:(x==n) with
   | true=>exact .inl rfl
   | false=>
    rw[e] at h;exact ih h
  ·simp only [c,zBN,if_false,zBA]
   cases e:(x==n) with
   | true=>
    rw[e] at h;exact .inr h
   | false=>
    rw[e] at h;exact ih h
def EL (sc scope:Scope):Bool:=
 scope.kind == .function&&scope.names.all fun y=>y.2 != .cell&&(y.2 != .local||scope.names.lookup y.1==some .local)&&(y.2 != .free||(sc.names.lookup y.1==some .cell||sc.names.lookup y.1==some .free))
structure CompScope (sc scope:Scope):Prop where
 kind:scope.kind = .function
 cell:∀ y∈scope.names,y.2 ≠ .cell
 own:∀ y∈scope.names,y.2 = .local->scope.names.lookup y.1=some .local
 free:∀ y∈scope.names,y.2 = .free->sc.names.lookup y.1=some .cell\/sc.names.lookup y.1=some .free
theorem CompScope.of {sc scope:Scope} (h:EL sc scope=true):CompScope sc scope:=by
 unfold EL at h;rw[zAv,zBK] at h;obtain⟨h1,h2⟩:=h;have h3:∀ y∈scope.names,(y.2 ≠ .cell/\(y.2 ≠ .local\/scope.names.lookup y.1=some .local))/\(y.2 ≠ .free\/(sc.names.lookup y.1=some .cell\/sc.names.lookup y.1=some .free)):=fun y hy=>by
  have q:=h2 y hy
  simpa [zAv,Bool.or_eq_true] using q
 refine⟨by simpa using h1,fun y hy=>(h3 y hy).1.1,fun y hy e=>?_,fun y hy e=>?_⟩
 ·exact (h3 y hy).1.2.resolve_left fun n=>n e
 ·exact (h3 y hy).2.resolve_left fun n=>n e
def Zx (X:Cx) (NC:List Str) (scope:Scope) (s3:Shared) (H3:Hp) (fp:List Addr):Cx:=
 { X with N:=NC,s₀ := s3,H₀ := H3,env:=compEnvC scope (W8 X.env.cells scope.names []) s3.heap.objs.size X.env,outer:=X.stack,ex:=fp,fn:=fun _=>false,pn:=[],xe:=fun _ _=>False }
def Y4 (own:Nat) (ix:List Nat) (σ:St):St:=zAH own none++ix.map fun j=>(σ[j]?).getD none
def Caps (X:Cx) (scope:Scope):List Str->List Nat->Prop
 | [],[]=>True
 | x::cs,j::js=>(X.N[j]?=some x/\(X.env.kindOf x=some .cell\/X.env.kindOf x=some .free)/\scope.names.lookup x=some .free)/\Caps X scope cs js
 | _,_=>False
theorem Caps.len {X:Cx} {scope:Scope}:∀ {cs:List Str} {js:List Nat},Caps X scope cs js->cs.length=js.length
 | [],[],_=>rfl
 | _::_,_::_,h=>by rw[zAg,zAg,Caps.len h.2]
 | [],_::_,h=>h.elim
 | _::_,[],h=>h.elim
theorem Caps.at {X:Cx} {scope:Scope}:∀ {cs:List Str} {js:List Nat} {i:Nat} {x:Str},Caps X scope cs js->cs[i]?=some x ->
  ∃ j,js[i]?=some j/\X.N[j]?=some x/\(X.env.kindOf x=some .cell\/X.env.kindOf x=some .free)/\scope.names.lookup x=some .free
 | [],[],_,_,_,e=>by simp at e
 | x::_,j::_,0,_,h,e=>by simp at e; subst e; exact⟨j,rfl,h.1⟩
 | _::_,_::_,i+1,_,h,e=>by
  obtain⟨j,e1,r⟩:=Caps.at (i:=i) h.2 (by simpa using e);exact⟨j,by simpa using e1,r⟩
 | [],_::_,_,_,h,_=>h.elim
 | _::_,[],_,_,h,_=>h.elim
def MT:TT:=fun _ H Q=>Q true H
def MM (Y:Cx) (ifs:List Expr) (t:TT):Prop:=
 ∀ (pins:List (Addr×Obj)) (s:Shared) (σ:St) (H:Hp) (Q:Bool->Hp->Prop),Inv Y pins σ H s->t σ H Q ->
  wpAny (model Y.prog Y.w) Y.A (forIn ifs true fun c r=>if r=true then do let ok <- isTrue c Y.env (eval c Y.env); pure (ForInStep.yield ok) else pure (ForInStep.yield r)) (TP Y pins σ Q) Y.xe s
theorem Cu {Y:Cx}:MM Y [] MT:=fun _ _ _ H _ I h=>wpAny_tests_nil ⟨H,I,h⟩
theorem Gd {Y:Cx} {c:Expr} {t:TT} (h:PT Y c t):MM Y [c] t:=fun pins s σ H Q I q=>wpAny_tests_one (h pins s σ H Q I q)
def Wk (g:TG) (tc:TT) (te:TE) (own:Nat) (ix:List Nat) (σ:St) (J:It) (p:Addr) (H1:Hp) (QQ:Hp->Prop):Prop:=
 ∃ W:Nat->Nat->List V->St->Hp->Prop,(∃ m,W 0 m [] (Y4 own ix σ) (upd H1 p (.lst [])))/\∀ i m ys σ2 H2,W i m ys σ2 H2->H2 p=some (.lst ys) /\
  ((J.stop i H2/\QQ H2)\/(J.go i H2/\ys.length<sizeLine/\∀ x H3,J.yld i H2 x H3->∃ N:List V->St->Hp->Prop,(∀ ys' σ' H',N ys' σ' H'->∃ m',m'<m/\W (i+1) m' ys' σ' H') /\
   g x σ2 H3 fun σ4 H4=>tc σ4 H4 fun b H5=>if b=true then te σ4 H5 fun y H6=>H6 p=some (.lst ys)/\N (ys++[y]) σ4 (upd H6 p (.lst (ys++[y]))) else N ys σ4 H5))
def IT (wi:TI) (g:TG) (tc:TT) (te:TE) (own:Nat) (ix:List Nat):TE:=fun σ H Q=>wi σ H fun J H1=>∀ p,H1 p=none->Wk g tc te own ix σ J p H1 (Q (.ref p))
theorem AE {prog:Program} {w:World} {A:Around} {R:Result->Shared->Prop} {s:Shared} {elt target iter:Expr} {ifs:List Expr} {scope:Scope} {pos:Pos} {it acc:Value} {env:Env} (I:Nat->Shared->Prop)
  (turn:∀ n s,I n s->wpAny (model prog w) A (pyNext it) (fun r s₁ => (r=none/\R (.ok .next) s₁)\/∃ v,r=some v /\
   wpAny (model prog w) A (letOwnedTupleGo target it v) (fun _ s₂ => wpAny (model prog w) A (assign target env v) (fun _ s₃ =>
    wpAny (model prog w) A (forIn ifs true fun c r=>if r=true then do let ok <- isTrue c env (eval c env); pure (ForInStep.yield ok) else pure (ForInStep.yield r)) (fun ok s₄ =>
     (ok=true/\wpAny (model prog w) A (eval elt env) (fun x s₅ => wpAny (model prog w) A (call (.builtin "list.append") [acc,x]) (fun _ s₆ => ∃ m,m<n/\I m s₆) (fun _ _=>False) s₅) (fun _ _=>False) s₄) \/
     (ok=false/\∃ m,m<n/\I m s₄)) (fun _ _=>False) s₃) (fun _ _=>False) s₂) (fun _ _=>False) s₁) (fun _ _=>False) s)
  (n:Nat) (h:I n s):codeAny (model prog w) A (.compLoop (.ListComp elt [⟨target,iter,ifs,0⟩] scope pos) 0 it acc env) R s:=by
 refine codeAny_loop rfl I (fun n s hI=>?_) n h;show wpAny _ A ((compTurn (.ListComp elt [⟨target,iter,ifs,0⟩] scope pos) 0 it acc env).onRaise (fun x=>do noteFrame x env; theTreesLotGoes x)) _ _ s;refine wpAny_noted ?_;rw[compTurn_list];have no:∀ (e:Value) (s':Shared),False->notedBy (model prog w) A env (fun e s'=>R (.error e) s') e s':=fun _ _ f=>f.elim;refine zCu (wpAny_standAt (zCu (wpAny_mono (turn n s hI) (fun r s₁ h₁ => ?_) no)));rcases h₁ with ⟨rfl,h₁⟩ | ⟨v,rfl,h₁⟩
 ·exact zCv h₁
 refine zCu (wpAny_mono h₁ (fun _ s₂ h₂ => ?_) no);refine zCu (wpAny_mono h₂ (fun _ s₃ h₃ => ?_) no);refine zCu (wpAny_mono h₃ (fun ok s₄ h₄ => ?_) no);rcases h₄ with ⟨rfl,h₄⟩ | ⟨rfl,h₄⟩
 ·refine zCu (zCu (wpAny_mono h₄ (fun x s₅ h₅ => ?_) no))
  exact zCu (wpAny_mono h₅ (fun _ s₆ h₆ => zCv (zCv ⟨rfl,h₆⟩)) no)
 ·exact zCv ⟨rfl,h₄⟩
section
variable {X:Cx} {pins:List (Addr×Obj)} {σ:St} {H H':Hp} {s s':Shared}
theorem E5 {NC own cs:List Str} {ix:List Nat} {scope:Scope} {fp:List Addr} {h4:Heap} {t4:Nat} (I:Inv X pins σ H s) (S:CompScope X.env.scope scope) (hN:NC=own++cs) (hc:Caps X scope cs ix)
  (hf:∀ b∈fp,Oh X pins H b) (hl:∀ b∈fp,b<s.heap.objs.size) (hns:h4.Ns s.heap.objs.size fun _=>none) (hk:∀ b o,s.heap.get? b=some o->h4.get? b=some o) :
  Inv (Zx X NC scope s H fp) [] (Y4 own.length ix σ) H { s with heap:=h4,toks:=t4 }:=by
 have cs_has:∀ y∈scope.names,y.2 = .free->∃ c,X.env.cells.lookup y.1=some c:=fun y hy e=>I.ok.has y.1 (S.free y hy e);have len:=hc.len;refine⟨⟨I.ok.mod,S.kind,I.ok.glob,I.ok.blt,zAl _,fun x y c e1 e2=>I.ok.inj x y c (Iv e1) (Iv e2),fun x hx=>?_,fun _ _ z=>(nomatch z),I.ok.hd,I.ok.frames,.inl rfl,fun b hb=>⟨zAu (hl b hb),fun x c e=>(hf b hb).2.2.2.2.1 x c (Iv e)⟩,
   I.bs,zAE I.ok.bsz I.sz,fun b o e hb=>?_,fun b hb z=>?_,I.stack,I.stkFree⟩,rfl,I.bare,Un.kept hk,⟨_,hns,fun i x v e1 e2 e3=>?_⟩,fun x c e=>?_,I.hok.fresh (zAl _),fun x c e=>I.freeC x c (Iv e),fun p hp=>?_,I.hok.kept hk,?_⟩
 ·-- a cell for each caught name
  have hx':(relabel scope X.env).names.lookup x=some .cell\/(relabel scope X.env).names.lookup x=some .free:=hx;have q:scope.names.lookup x=some .free:=by
   rcases hx' with h | h
   ·rcases Jj h with h | ⟨_,h⟩
    ·exact absurd rfl (S.cell _ (PySem.mem_of_lookup h))
    ·exact h
   ·rcases Jj h with h | ⟨z,_⟩
    ·exact h
    ·cases z
  obtain⟨c,hc'⟩:=cs_has (x,.free) (PySem.mem_of_lookup q) rfl;exact Ek (Xx hc' scope.names [] (PySem.mem_of_lookup q))
 ·rcases (hf b hb).2.2.2.1 with z | z
  ·exact I.ok.noex b o e z
  ·exact absurd (zAJ (zAq e) (zAE I.ok.bsz z)) (zBl _)
 ·rcases zAn.mp (I.stkSub b z) with z | z
  ·exact (hf b hb).2.1 z
  ·exact (hf b hb).2.2.1 z
 ·-- the caught names' values
  have e1':(own++cs)[i]?=some x:=hN▸e1;have hi:own.length<=i:=by
   by_cases hi:own.length<=i
   ·exact hi
   ·unfold Y4 at e2
    rw[List.getElem?_append_left (by rw[zBe]; omega),List.getElem?_replicate,if_pos (by omega)] at e2;cases e2
  rw[zCf hi] at e1';obtain⟨j,ej,en,kx,fx⟩:=hc.at e1';have e2':(σ[j]?).getD none=some v:=by
   unfold Y4 at e2;rw[zCf (by rw[zBe]; omega),zBe,zAs,ej] at e2;exact Option.some.inj e2
  have e2'':σ[j]?=some (some v):=by
   cases z:σ[j]? with
   | none=>rw[z] at e2'; cases e2'
   | some o=>rw[z] at e2'; exact congrArg some e2'
  obtain⟨m,_,hl'⟩:=I.loc;obtain⟨u,ru,l⟩:=hl' j x v en e2'' (kx.elim (fun z=>.inr (.inl z)) fun z=>.inr (.inr z));refine⟨u,ru,.inr ⟨Nx fx,?_⟩⟩;rcases l with ⟨k,_⟩ | ⟨_,c,e,z⟩
  ·rcases kx with k' | k' <;> rw[k] at k' <;> cases k'
  ·obtain⟨d,hd⟩:=Ek (Xx e scope.names [] (PySem.mem_of_lookup fx))
   have e':=Iv hd;rw[e] at e';cases e';obtain⟨o,ho,dd⟩:=z;exact⟨c,hd,o,hk c o ho,dd⟩
 ·obtain⟨v,o,ho,dd⟩:=I.cell x c (Iv e)
  exact⟨v,o,hk c o ho,dd⟩
 ·exact absurd (show p∈([]:List (Addr×Obj)) from hp) (by simp)
 ·show (Y4 own.length ix σ).length=NC.length
  rw[hN];unfold Y4;rw[zAi,zAi,zBe,zAb,len]
theorem Wi {NC:List Str} {scope:Scope} {fp:List Addr} {σ':St} {h':Heap} (I:Inv X pins σ H s) (hf:∀ b∈fp,Oh X pins H b) (J:Inv (Zx X NC scope s H fp) [] σ' H' s') (hs:zBg s.heap.objs.size s'.heap h'):Inv X pins σ H' { s' with heap:=h' }:=by
 obtain⟨hh,g,d,t,os⟩:=s';have hos:os=s.os:=J.os;subst hos;have nC:H' s.heap.objs.size=none:=J.free;have un:Un (AD X.stack) fp H H' s.heap hh:=J.base;have out:∀ b o,s.heap.get? b=some o->b≠s.heap.objs.size:=fun b o e=>zAu (zAq e);have un':Un (AD X.stack) fp H H' s.heap h':=⟨fun b o e n hb hx=>(hs.2 b (out b o e)).trans (un.keep b o e n hb hx),fun b o e n hb hx=>let ⟨sl,q⟩:=un.slot b o e n hb hx; ⟨sl,(hs.2 b (out b o e)).trans q⟩,un.free,
  fun b o e hx=>let ⟨o',q⟩:=un.there b o e hx; ⟨o',(hs.2 b (out b o e)).trans q⟩,un.tups,un.frzs,un.tbls⟩
 have hok:HOk X.prog X.w H' h':=fun b u e=>by
  refine (J.hok b u e).stay (fun c v hc q=>(hs.2 c ?_).trans q) (fun _ q=>q) fun _ _ q=>q;rintro rfl;rcases hc with rfl | hc
  ·rw[nC] at e; cases e
  ·rw[nC] at hc; cases hc
 have q:=Inv.call (s:=s) (h':=h') (g':=g) (d':=d) (t':=t) (ch:=fp) I un' hok J.bare fun b hb=>⟨(hf b hb).2.2.2.1,(hf b hb).2.1,(hf b hb).2.2.2.2.1,(hf b hb).2.2.2.2.2⟩;exact q
end
theorem Wz {X:Cx} {elt tg iter:Expr} {ifs:List Expr} {scope:Scope} {pos:Pos} {NC own cs:List Str} {ix:List Nat} {g:TG} {tc:TT} {te:TE} (hc:X.calm=true) (S:CompScope X.env.scope scope) (hN:NC=own++cs) (hcap:Caps X scope cs ix)
  (hg:∀ s3 H3 fp,PG (Zx X NC scope s3 H3 fp) tg g) (ht:∀ s3 H3 fp,MM (Zx X NC scope s3 H3 fp) ifs tc) (he:∀ s3 H3 fp,PE (Zx X NC scope s3 H3 fp) elt te)
  {pins:List (Addr×Obj)} {σ:St} {H2:Hp} {s2:Shared} {it:Addr} {fp:List Addr} {tn:Nat->Heap->Prop} {J:It} (I2:Inv X pins σ H2 s2) (T:C0 X.prog X.w X.K tg J fp it tn) (st2:tn 0 s2.heap) (f2:∀ b∈fp,Oh X pins H2 b) {QQ:Addr->Hp->Prop} {E:Value->Shared->Prop}
  {RR:Value->Addr->Result->Shared->Prop}
  (h2:∀ p,H2 p=none->Wk g tc te own.length ix σ J p H2 (QQ p))
  (fin:∀ s3 H3 σ5 H5 s6,Inv X pins σ H3 s3->(∀ b∈fp,Oh X pins H3 b)->Inv (Zx X NC scope s3 H3 fp) [] σ5 H5 s6->QQ s2.heap.objs.size H5->RR (.ref s2.heap.objs.size) s3.heap.objs.size (.ok .next) s6) :
  wpAny (model X.prog X.w) X.A (newList []) (fun acc s3=>wpAny (model X.prog X.w) X.A (newFunctionEnv scope X.env.globals (W8 X.env.cells scope.names []) [] X.env.qual none .none (some X.env)) (fun cenv s4=>
   codeAny (model X.prog X.w) X.A (.compStart (.ListComp elt [⟨tg,iter,ifs,0⟩] scope pos) 0 (.ref it) acc { cenv with scope:=relabel scope X.env }) (RR acc cenv.locals) s4) E s3) E s2:=by
 have lt2:∀ b∈fp,b<s2.heap.objs.size:=fun b hb=>let ⟨_,e,_⟩:=T.obj _ _ st2 b hb; zAq e
 obtain⟨W,⟨m0,w0⟩,turn⟩:=h2 _ I2.fresh;refine wpAny_newObj_type ?_;have I3:Inv X pins σ (upd H2 s2.heap.objs.size (.lst [])) { s2 with heap:=s2.heap.push { cls:=.type "list",dict:=none,data:=.seq ([]:List Value).toArray } }:=I2.lnew (t':=s2.toks) .nil (zAA _);have f3:∀ b∈fp,Oh X pins (upd H2 s2.heap.objs.size (.lst [])) b:=fun b hb=>⟨by rw[Aw (zAu (lt2 b hb))]; exact (f2 b hb).1,(f2 b hb).2⟩;have st3:tn 0 (s2.heap.push { cls:=.type "list",dict:=none,data:=.seq ([]:List Value).toArray }):=T.keep _ _ _ st2 fun b hb o e=>zAf _ e;have lt3:∀ b∈fp,b<(s2.heap.push { cls:=.type "list",dict:=none,data:=.seq ([]:List Value).toArray }).objs.size:=fun b hb=>by rw[zBy]; exact zBx (lt2 b hb)
 refine wpAny_newFunctionEnv S.cell (fun _ z=>nomatch z) (fun h4 hns hsb=>?_) S.kind
 dsimp only at hns hsb ⊢
 have hk4:∀ b o,(s2.heap.push { cls:=.type "list",dict:=none,data:=.seq ([]:List Value).toArray }).get? b=some o->h4.get? b=some o:=fun b o e=>
  hsb.extBut b o (zAu (zAq e)) (zAf _ e)
 have J0:=E5 (t4:=s2.toks+([]:List (Str×Value)).length) I3 S hN hcap f3 lt3 hns hk4;have st4:tn 0 h4:=T.keep _ _ _ st3 fun b hb o e=>hk4 b o e;have fB:∀ {H':Hp},(∀ b∈fp,H' b=none)->∀ b∈fp,Oh (Zx X NC scope { s2 with heap:=s2.heap.push { cls:=.type "list",dict:=none,data:=.seq ([]:List Value).toArray } } (upd H2 s2.heap.objs.size (.lst [])) fp) [] H' b:=fun hn b hb=>by
  refine⟨hn b hb,zAu (lt3 b hb),fun z=>?_,.inl hb,fun x c e=>(f3 b hb).2.2.2.2.1 x c (Iv e),fun p hp=>absurd (show p∈([]:List (Addr×Obj)) from hp) (by simp)⟩;rcases zAn.mp (I3.stkSub b z) with z | z
  ·exact (f3 b hb).2.1 z
  ·exact (f3 b hb).2.2.1 z
 have loop:∀ s4:Shared,s4={ s2 with heap:=h4,toks:=s2.toks+([]:List (Str×Value)).length } ->
   codeAny (model X.prog X.w) X.A (.compLoop (.ListComp elt [⟨tg,iter,ifs,0⟩] scope pos) 0 (.ref it) (.ref s2.heap.objs.size) (compEnvC scope (W8 X.env.cells scope.names []) (s2.heap.push { cls:=.type "list",dict:=none,data:=.seq ([]:List Value).toArray }).objs.size X.env))
    (RR (.ref s2.heap.objs.size) (s2.heap.push { cls:=.type "list",dict:=none,data:=.seq ([]:List Value).toArray }).objs.size) s4:=by
  rintro s4 rfl;refine AE (fun n s'=>∃ i ys σ' H',Inv (Zx X NC scope { s2 with heap:=s2.heap.push { cls:=.type "list",dict:=none,data:=.seq ([]:List Value).toArray } } (upd H2 s2.heap.objs.size (.lst [])) fp) [] σ' H' s'/\tn i s'.heap/\(∀ b∈fp,H' b=none)/\W i n ys σ' H') ?_ m0
   ⟨0,[],_,_,J0,st4,fun b hb=>(f3 b hb).1,w0⟩
  rintro n s5 ⟨i,ys,σ5,H5,J5,st5,fr5,w5⟩;obtain⟨hp5,alt⟩:=turn i n ys σ5 H5 w5;rcases alt with ⟨stop,qn⟩ | ⟨go,hz,step⟩
  ·refine Db (T.done (Zx X NC scope _ _ fp) rfl rfl rfl hc i [] s5 σ5 H5 _ J5 (fB fr5) st5 stop) fun r s6 ⟨hr,J6⟩=>.inl ⟨hr,?_⟩
   exact fin _ _ _ _ _ I3 f3 J6 qn
  ·refine Db (T.item (Zx X NC scope _ _ fp) rfl rfl rfl hc i [] s5 σ5 H5 _ J5 (fB fr5) st5 go) fun r s6 ⟨u,hr,h6⟩=>.inr ⟨u,hr,?_⟩
   refine Db h6 fun _ s7 ⟨x,H7,J7,r7,y7,st7,fr7⟩=>?_;have J7':=J7.pinned (fB fr7) (T.obj _ _ st7);obtain⟨N,hN',q7⟩:=step x H7 y7;refine Db (hg _ _ fp _ s7 σ5 H7 x u _ J7' r7 q7) fun _ s8 ⟨σ8,H8,J8,q8⟩=>?_;refine Db (ht _ _ fp _ s8 σ8 H8 _ J8 q8) fun ok s9 ⟨H9,J9,q9⟩=>?_;have again:∀ {σa:St} {Ha:Hp} {sa:Shared} {ya:List V} {ma:Nat},Inv (Zx X NC scope { s2 with heap:=s2.heap.push { cls:=.type "list",dict:=none,data:=.seq ([]:List Value).toArray } } (upd H2 s2.heap.objs.size (.lst [])) fp) ([]++Tq fp s7.heap) σa Ha sa->ma<n->W (i+1) ma ya σa Ha ->
     ∃ m,m<n/\∃ i ys σ' H',Inv (Zx X NC scope { s2 with heap:=s2.heap.push { cls:=.type "list",dict:=none,data:=.seq ([]:List Value).toArray } } (upd H2 s2.heap.objs.size (.lst [])) fp) [] σ' H' sa/\tn i sa.heap/\(∀ b∈fp,H' b=none)/\W i m ys σ' H':=fun {σa Ha sa ya ma} Ja hm wa=>by
    refine⟨ma,hm,i+1,ya,σa,Ha,Ja.unpinned,T.keep _ _ _ st7 fun b hb o e=>(Ja.pin (b,o) (zAO _ (zAO _ (Jb hb e)))).1,fun b hb=>?_,wa⟩;obtain⟨o,e,d⟩:=T.obj _ _ st7 b hb;exact (Ja.pin (b,o) (zAO _ (zAO _ (Jb hb e)))).2.1
   cases ok with
   | false=>
    obtain⟨m',hm,w'⟩:=hN' _ _ _ (show N ys σ8 H9 from q9);exact .inr ⟨rfl,again J9 hm w'⟩
   | true=>
    refine .inl ⟨rfl,Db (he _ _ fp _ s9 σ8 H9 _ J9 q9) fun yv s10 ⟨y,H10,J10,r10,hp10,n10⟩=>?_⟩;obtain⟨m',hm,w'⟩:=hN' _ _ _ n10;refine Db (Dv _ s10 σ8 H10 (.ref s2.heap.objs.size) [y] (.ref s2.heap.objs.size) [yv] (fun _ Hz=>Hz=upd H10 s2.heap.objs.size (.lst (ys++[y]))) J10 rfl (.cons r10 .nil) ⟨_,ys,y,rfl,rfl,hp10,hz,rfl⟩) fun _ s11 ⟨_,H11,J11,_,e11⟩=>?_;subst e11;exact again J11 hm w'
 exact codeAny_compStart_list (loop _ rfl) (T.self X.A 0 _ _ _ st4 (loop _ rfl))
theorem Cn {X:Cx} {elt tg iter:Expr} {ifs:List Expr} {scope:Scope} {pos:Pos} {NC own cs:List Str} {ix:List Nat} {wi:TI} {g:TG} {tc:TT} {te:TE} (hc:X.calm=true) (S:CompScope X.env.scope scope) (hN:NC=own++cs) (hcap:Caps X scope cs ix)
  (hi:PI X tg iter wi) (hg:∀ s3 H3 fp,PG (Zx X NC scope s3 H3 fp) tg g) (ht:∀ s3 H3 fp,MM (Zx X NC scope s3 H3 fp) ifs tc) (he:∀ s3 H3 fp,PE (Zx X NC scope s3 H3 fp) elt te)
  (hs:∀ x,foldedSetIterable iter X.env x=pure x:=by intro _; rfl):PE X (.ListComp elt [⟨tg,iter,ifs,0⟩] scope pos) (IT wi g tc te own.length ix):=by
 intro pins s σ H Q I h;rw[eval_ListComp];have has:∀ y∈scope.names,y.2 = .free->∃ c,X.env.cells.lookup y.1=some c:=fun y hy e=>I.ok.has y.1 (S.free y hy e);refine wpAny_comprehension_free (use:=none) rfl hs (BH has) S.kind S.own (Db (hi pins s σ H _ I h) fun v s1 h1=>Db h1 fun itv s2 h2=>?_);obtain⟨it,fp,tn,J,H2,e,I2,T,st2,f2,h2⟩:=h2;subst e;refine Wz hc S hN hcap hg ht he I2 T st2 f2 (QQ:=fun p=>Q (.ref p)) (RR:=fun acc C=>compPost (model X.prog X.w) X.A X.xe none (EP X pins σ Q) acc C) h2 fun s3 H3 σ5 H5 s6 I3 f3 J6 qn=>?_;obtain⟨m6,hn6,_⟩:=J6.loc;exact⟨m6,hn6,fun h7 hs7=>⟨.ref s2.heap.objs.size,H5,Wi I3 f3 J6 hs7,rfl,qn⟩⟩
theorem Ik {X:Cx} {elt tg iter:Expr} {ifs:List Expr} {scope:Scope} {pos py spos:Pos} {NC own cs:List Str} {ix:List Nat} {wi:TI} {g:TG} {tc:TT} {te:TE} {y:Str} {j:Nat} (hnd:X.N.Nodup) (hj:X.N[j]?=some y) (hy:X.env.scope.names.lookup y=some .local) (hc:X.calm=true) (S:CompScope X.env.scope scope) (hN:NC=own++cs) (hcap:Caps X scope cs ix)
  (hi:PI X tg iter wi) (hg:∀ s3 H3 fp,PG (Zx X NC scope s3 H3 fp) tg g) (ht:∀ s3 H3 fp,MM (Zx X NC scope s3 H3 fp) ifs tc) (he:∀ s3 H3 fp,PE (Zx X NC scope s3 H3 fp) elt te)
  (hsw:swapsWith (.ListComp elt [⟨tg,iter,ifs,0⟩] scope pos) (some (.Name y py)) spos.line X.env=pure true:=by rfl) (hs:∀ x,foldedSetIterable iter X.env x=pure x:=by intro _; rfl) :
  PS X (.Assign [.Name y py] (.ListComp elt [⟨tg,iter,ifs,0⟩] scope pos) spos) (IA (IT wi g tc te own.length ix) (Er j)):=by
 intro pins s σ H D I h;rw[exec_Assign_Name_used _ _ _ _ hsw];refine zCu (wpAny_standAt (zCu ?_));show wpAny _ X.A (comprehension (.ListComp elt [⟨tg,iter,ifs,0⟩] scope pos) scope X.env _ (newList []) false (eval iter X.env) (some (assign (.Name y py) X.env)) >>= fun _=>_) _ _ s;have has:∀ y∈scope.names,y.2 = .free->∃ c,X.env.cells.lookup y.1=some c:=fun y hy e=>I.ok.has y.1 (S.free y hy e);refine zCu (Db (wpAny_comprehension_free (use:=some (assign (.Name y py) X.env)) (Q:=fun _ s'=>SP X pins D .next s') rfl hs (BH has) S.kind S.own (Db (hi pins s σ H _ I h) fun v s1 h1=>Db h1 fun itv s2 h2=>?_)) fun _ s' hq=>zCv (zCv hq));obtain⟨it,fp,tn,J,H2,e,I2,T,st2,f2,h2⟩:=h2;subst e;refine Wz hc S hN hcap hg ht he I2 T st2 f2 (QQ:=fun p H'=>D.nx (σ.set j (some (.ref p))) H') (RR:=fun acc C=>compPost (model X.prog X.w) X.A X.xe (some (assign (.Name y py) X.env)) (fun _ s'=>SP X pins D .next s') acc C) h2 fun s3 H3 σ5 H5 s6 I3 f3 J6 qn=>?_;obtain⟨m6,hn6,_⟩:=J6.loc;have I6:=Wi I3 f3 J6 (zBg.refl ..);show wpAny _ X.A (assign (.Name y py) X.env (.ref s2.heap.objs.size)) _ _ s6;refine wpAny_assign_Name (Wt (v:=.ref s2.heap.objs.size) I6 hnd hj (.inl hy) rfl (fun s7 I7 ⟨a,hs7,ha⟩=>?_) (.inr hy));have hCa:s3.heap.objs.size≠a:=by
  rcases ha with ha | ha
  ·rw[ha]; exact Ne.symm (zAu I3.lt)
  ·obtain⟨v,q⟩:=I3.cell y a ha
   exact Ne.symm (zAu q.lt)
 refine⟨m6,hn6.sameBut hs7 hCa,fun h8 hs8=>?_⟩;have nC:H5 s3.heap.objs.size=none:=J6.free;have I8:Inv X pins (σ.set j (some (.ref s2.heap.objs.size))) H5 { s7 with heap:=h8,toks:=s7.toks }:=by
  refine I7.turned (it:=s3.heap.objs.size) (fun b o hb e=>(hs8.2 b hb).trans e) nC (Ne.symm (zAu I3.lt)) (.inr I3.sz) (fun x c e z=>?_) (fun p hp z=>?_)
  ·obtain⟨v,q⟩:=I3.cell x c e
   exact absurd (z▸q.lt) (zBl _)
  ·exact absurd (z▸zAq (I3.pin p hp).1) (zBl _)
 exact⟨_,H5,I8,qn⟩
theorem Cw {X:Cx}:Gr X (.builtin "isinstance") (fun xs H Q=>∃ x c cv t b,xs=[x,c]/\(∀ u,RelV c u->u=cv)/\Gj X.K H x t/\zAR X.K t cv=some b/\Q (.bl b) H):=by
 intro pins s σ H xs us Q I r h;obtain⟨x,c,cv,t,b,rfl,hc,ty,e,q⟩:=h;obtain⟨u,z,rfl,rx,rc⟩:=FE r;cases hc z rc;exact AJ I rx ty e fun tk=>⟨.bl b,H,I.tok tk,rfl,q⟩
theorem Lo {n:String}:∀ u,RelV (.ty n) u->u = .type n:=fun _ h=>h
theorem KL {a:Addr}:∀ u,RelV (.ref a) u->u = .ref a:=fun _ h=>h
theorem Js {X:Cx} (hc:X.calm=true):Gr X (.builtin "sum") (fun xs H Q=>∃ p,∃ ns:List Int,xs=[.ref p]/\SqL X.K H p (ns.map V.int)/\Q (.int ns.sum) H):=by
 intro pins s σ H xs us Q I r h;obtain⟨p,ns,rfl,hq,q⟩:=h;obtain⟨u,rfl,rx⟩:=Jm r;cases rx;obtain⟨its,rv,pl,hz⟩:=I.list hq;have hi:IntsAre its ns:=Mf rv;obtain⟨ys,ey⟩:=hi.allInts.items;have hl:s.heap.IsList p (intItems ys):=ey▸pl.isList;have es:preSum (numAt ys) ys.size=ns.sum:=by
  have e1:=hi.numsOf;have e2:numsOf (intItems ys).toList=ns:=by rw[<- ey]; exact e1
  rw[nums_intItems] at e2;rw[preSum_eq,List.take_of_length_le (by simp),e2]
 refine sum_intListG (I.ok.hd hc) hl fun h' tk t' hk=>?_;exact⟨.int ns.sum,H,I.kept hk,⟨t',by rw[es]⟩,q⟩
def GM:List V->List V->Bool
 | [],[]=>true
 | x::xs,y::ys=>Wl x y&&GM xs ys
 | _,_=>false
theorem V2:∀ {xs ys:List V},xs.length≠ys.length->GM xs ys=false
 | [],[],h=>absurd rfl h
 | [],_::_,_=>rfl
 | _::_,[],_=>rfl
 | x::xs,y::ys,h=>by
  unfold GM;rw[V2 (xs:=xs) (ys:=ys) fun e=>h (by rw[zAg,zAg,e]),zBI]
theorem U7:∀ {xs ys:List V},xs.length=ys.length->∀ e:Nat->Bool,(∀ j x y,xs[j]?=some x->ys[j]?=some y->e j=Wl x y)->(zAL xs.length).all e=GM xs ys
 | [],[],_,_,_=>rfl
 | [],_::_,h,_,_=>by simp at h
 | _::_,[],h,_,_=>by simp at h
 | x::xs,y::ys,h,e,he=>by
  have ih:=U7 (xs:=xs) (ys:=ys) (by simpa using h) (fun j=>e (j+1)) fun j a b ha hb=>he (j+1) a b (by simpa using ha) (by simpa using hb);unfold GM;rw[zAg,List.range_succ_eq_map,zCg,List.all_map,he 0 x y rfl rfl,<- ih];rfl
def FA (its js:List Value) (xs ys:List V) (j:Nat):Bool:=match xs[j]?,ys[j]? with
 | some x,some y=>Wl x y
 | _,_=>true
theorem DE {X:Cx} {pins:List (Addr×Obj)} {s:Shared} {σ:St} {H:Hp} {A:Around} {xs ys:List V} {its js:List Value} (r1:Vals xs its) (r2:Vals ys js) (f1:xs.all Fb=true) (f2:ys.all Fb=true) (hl:xs.length=ys.length) :
  ∀ j (h1:j<its.toArray.size) (h2:j<js.toArray.size),SeqAt.EqAt A s its.toArray[j] js.toArray[j] (FA its js xs ys j):=fun j h1 h2=>by
 have l1:=r1.length;have l2:=r2.length;rw[zAh] at h1 h2;have e1:xs[j]?=some xs[j]:=zAe (by omega);have e2:ys[j]?=some ys[j]:=zAe (by omega);obtain⟨u,hu,ru⟩:=r1.get e1;obtain⟨v,hv,rv⟩:=r2.get e2;have eu:its.toArray[j]=u:=by rw[zCb]; exact (zAj.mp hu).2
 have ev:js.toArray[j]=v:=by rw[zCb]; exact (zAj.mp hv).2
 rw[eu,ev];unfold FA;rw[e1,e2];exact J3 ru rv (zBK.mp f1 _ (zBb _)) (zBK.mp f2 _ (zBb _))
def OQ (K:zAa) (neg:Bool):R2:=fun x y H Q=>∃ a b xs ys,x = .ref a/\y = .ref b/\SqL K H a xs/\SqL K H b ys/\xs.all Fb=true/\ys.all Fb=true/\Q (.bl (if neg then !GM xs ys else GM xs ys)) H
theorem QB {X:Cx} (hu:X.A.units<cLine):Lh X (compareOp .Eq) (OQ X.K false):=by
 intro pins s σ H x y v u Q I rx ry h;obtain⟨a,b,xs,ys,rfl,rfl,h1,h2,f1,f2,q⟩:=h;cases rx;cases ry;obtain⟨its,r1,p1,z1⟩:=I.list h1;obtain⟨js,r2,p2,z2⟩:=I.list h2;have l1:=r1.length;have l2:=r2.length;by_cases hl:xs.length=ys.length
 ·refine SeqAt.eq_listAt p1.isList p2.isList (by rw[zAh,zAh]; lia) hu (DE (X:=X) (pins:=pins) (σ:=σ) (H:=H) r1 r2 f1 f2 hl) ?_
  refine⟨.bl (GM xs ys),H,I,?_,q⟩;show Value.bool _=Value.bool _;rw[zAh,<- l1,U7 hl];intro j x y e1 e2;unfold FA;rw[e1,e2]
 ·refine SeqAt.eq_list_lengthsAt p1.isList p2.isList (by simp only [zAh,bne_iff_ne,ne_eq]; lia) hu ?_
  exact⟨.bl (GM xs ys),H,I,by rw[V2 hl]; rfl,q⟩
def OU (K:zAa) (te:TE) (tk:TE):TE:=fun σ H Q=>te σ H fun x H1=>tk σ H1 fun k H2=>k = .int (-1)/\∃ a xs,x = .ref a/\SqL K H2 a xs/\∀ p,H2 p=none->Q (.ref p) (upd H2 p (.lst xs.reverse))
theorem JQ {X:Cx} {e k:Expr} {te tk:TE} {p2 pos:Pos} (he:PE X e te) (hk:PE X k tk):PE X (.Subscript e (.Slice none none (some k) p2) pos) (OU X.K te tk):=by
 intro pins s σ H Q I h;refine Subscript_ (Db (he pins s σ H _ I h) fun v s1 ⟨x,H1,I1,r1,q1⟩=>?_);refine wpAny_Slice ?_;rw[evalPart_none];refine zCv (zCv ?_);rw[evalPart_some];refine Db (hk pins s1 σ H1 _ I1 q1) fun vk s2 ⟨z,H2,I2,r2,hz,a,xs,ex,hx,q⟩=>?_;subst hz ex;cases r1;obtain⟨t,rfl⟩:=r2;have I4:Inv X pins σ H2 { s2 with heap:=s2.heap.push { cls:=.type "slice",data:=.fields #[.none,.none,.int (-1) t] } }:=I2.kept (t':=s2.toks) fun b ob q=>zAf _ q;obtain⟨its,r,ht,hz⟩:=I4.list hx;have hlen:=r.length;refine tail_any (ops:=[.ref a,.ref s2.heap.objs.size]) ht.isList.typeIs slot_list_getitem.lookup ?_ (by with_unfolding_all rfl);refine wpAny_getItem_list_slice ht.isList (Heap.IsSliceOf.new ..) .none .none (.int (-1) t) (by decide) ?_ (by rw[zAh] <;> lia);refine⟨.ref _,_,I4.laid (t':=s2.toks) (o:=.lst xs.reverse) (fun b ob q=>zAf _ q) (zAl _) ?_,rfl,q _ (I4.hok.fresh (zAl _))⟩;refine⟨by rw[List.length_reverse]; exact hz,its.reverse,0,r.reverse,?_⟩;rw[PySem.W.krv_pick];exact zAy _ rfl
abbrev Ei (ix:List Nat) (σ:St):St:=ix.map fun j=>(σ[j]?).getD none
theorem Lw {lo:Int} {n:Nat} {tc:TT} {te:TE} {σ:St} {ix:List Nat} {QQ:Hp->Prop} {H1:Hp} {p:Addr} (Pv:Nat->List V->Hp->Prop) (h0:Pv 0 [] (upd H1 p (.lst [])))
  (hp:∀ i ys H,i<=n->Pv i ys H->H p=some (.lst ys)/\ys.length<=i) (hn:n<=sizeLine)
  (hs:∀ i ys H,i<n->Pv i ys H->tc (some (.int (lo+i))::Ei ix σ) H fun b H5=>if b=true then te (some (.int (lo+i))::Ei ix σ) H5 fun y H6=>H6 p=some (.lst ys) /\
   (some (.int (lo+i))::Ei ix σ)=(some (.int (lo+i))::Ei ix σ)/\Pv (i+1) (ys++[y]) (upd H6 p (.lst (ys++[y]))) else (some (.int (lo+i))::Ei ix σ)=(some (.int (lo+i))::Ei ix σ)/\Pv (i+1) ys H5)
  (hd:∀ ys H,Pv n ys H->QQ H) :
  Wk (Er 0) tc te 1 ix σ (KM lo n) p H1 QQ:=by
 refine⟨fun i m ys σ2 H2=>m=n-i/\i<=n/\(∃ o,σ2=o::Ei ix σ)/\Pv i ys H2,⟨n,by simp,zAA _,⟨none,rfl⟩,h0⟩,?_⟩;rintro i m ys σ2 H2 ⟨rfl,hi,⟨o,rfl⟩,pv⟩;obtain⟨hp2,hl2⟩:=hp i ys H2 hi pv;refine⟨hp2,?_⟩;by_cases hlt:i<n
 ·refine .inr ⟨hlt,by lia,fun x H3 y=>?_⟩
  obtain⟨e,y⟩:=y;subst e y;exact⟨fun ys' σ' H'=>σ'=(some (.int (lo+i))::Ei ix σ)/\Pv (i+1) ys' H',fun ys' σ' H' ⟨e,q⟩=>⟨n-(i+1),by lia,rfl,hlt,⟨_,e⟩,q⟩,hs i ys _ hlt pv⟩
 ·have e:i=n:=by lia
  subst e;exact .inl ⟨zAl _,hd ys H2 pv⟩
theorem Bz {K:zAa} {a:Addr} {xs:List V} {tc:TT} {te:TE} {σ:St} {ix:List Nat} {QQ:Hp->Prop} {H1:Hp} {p:Addr} (Pv:Nat->List V->Hp->Prop) (h0:Pv 0 [] (upd H1 p (.lst [])))
  (hp:∀ i ys H,i<=xs.length->Pv i ys H->H p=some (.lst ys)/\ys.length<=i/\SqL K H a xs) (hn:xs.length<=sizeLine)
  (hs:∀ i x ys H,xs[i]?=some x->Pv i ys H->tc (some x::Ei ix σ) H fun b H5=>if b=true then te (some x::Ei ix σ) H5 fun y H6=>H6 p=some (.lst ys) /\
   (some x::Ei ix σ)=(some x::Ei ix σ)/\Pv (i+1) (ys++[y]) (upd H6 p (.lst (ys++[y]))) else (some x::Ei ix σ)=(some x::Ei ix σ)/\Pv (i+1) ys H5)
  (hd:∀ ys H,Pv xs.length ys H->QQ H) :
  Wk (Er 0) tc te 1 ix σ (KS K a) p H1 QQ:=by
 refine⟨fun i m ys σ2 H2=>m=xs.length-i/\i<=xs.length/\(∃ o,σ2=o::Ei ix σ)/\Pv i ys H2,⟨xs.length,by simp,zAA _,⟨none,rfl⟩,h0⟩,?_⟩;rintro i m ys σ2 H2 ⟨rfl,hi,⟨o,rfl⟩,pv⟩;obtain⟨hp2,hl2,hq2⟩:=hp i ys H2 hi pv;refine⟨hp2,?_⟩;by_cases hlt:i<xs.length
 ·refine .inr ⟨⟨xs,xs[i],hq2,by simp [hlt]⟩,by lia,fun x H3 y=>?_⟩
  obtain⟨e,y⟩:=y;subst e;exact⟨fun ys' σ' H'=>σ'=(some x::Ei ix σ)/\Pv (i+1) ys' H',fun ys' σ' H' ⟨e,q⟩=>⟨xs.length-(i+1),by lia,rfl,hlt,⟨_,e⟩,q⟩,hs i x ys _ (y xs hq2) pv⟩
 ·have e:i=xs.length:=by lia
  subst e;exact .inl ⟨⟨xs,hq2,zAl _⟩,hd ys H2 pv⟩
structure Cp (P:Program) (w:World) (K:zAa) (mg:Str->Option Value) (base:Heap) (k:Nat) (x:Str) (ps:List Str) (sp:Sp):Prop where
 ex:∃ f fd,FnOk P w K mg base Da k f fd ps sp/\Binds K fd ps []/\zAQ K (.ref f)=true/\mg x=some (.ref f)
theorem Ax {X:Cx} {k:Nat} {x:Str} {ps:List Str} {sp:Sp} {e:Expr} {es:List Expr} {p pos:Pos} {t:TA} (C:Cp X.prog X.w X.K X.mg X.base k x ps sp) (hr:Room k X.A) (hg:Gl X x) (ha:PA X (e::es) t)
  (hdb:(x==("__debug__" : Str))=false:=by decide) (he:starEach (e::es) X.env=(false,eval e X.env)::starEach es X.env:=by rfl) (hpl:(backTo pos (starEach es X.env)).any (·.1)=false:=by rfl) :
  PE X (.Call (.Name x p) (e::es) [] pos) (V7 sp [] E0 t):=by
 obtain⟨f,fd,F,b,kp,hm⟩:=C.ex;exact GB F hr hg hm kp b .nil Xe ha hdb he hpl
structure Def (K:zAa) (mg:Str->Option Value) (x:Str) (st:Stmt) (ps:List Str):Prop where
 ex:∃ f fd,Fun K x x st f fd/\Binds K fd ps []/\mg x=some (.ref f)
theorem Def.cal {P:Program} {w:World} {K:zAa} {mg:Str->Option Value} {base:Heap} {k:Nat} {x:Str} {st:Stmt} {ps:List Str} {sp:Sp} (D:Def K mg x st ps) (h:∀ f fd,Fun K x x st f fd->FnOk P w K mg base Da k f fd ps sp):Cp P w K mg base k x ps sp:=by
 obtain⟨f,fd,F,b,m⟩:=D.ex;exact⟨f,fd,h f fd F,b,F.kp,m⟩
def Od (mg:Str->Option Value) (x:Str) (i:Int):Prop:=∃ t,mg x=some (.int i t)
def KR (mg:Str->Option Value) (x:Str) (z:Str):Prop:=∃ t,mg x=some (.str z t)
theorem Dg {X:Cx} {x:Str} {i:Int} {pos:Pos} (h:Od X.mg x i) (hg:Gl X x) (hd:(x==("__debug__" : Str))=false:=by decide):PE X (.Name x pos) (tC (.int i)):=by
 obtain⟨t,e⟩:=h;exact Xu hg e ⟨t,rfl⟩ hd
theorem W6 {X:Cx} {x:Str} {i:Str} {pos:Pos} (h:KR X.mg x i) (hg:Gl X x) (hd:(x==("__debug__" : Str))=false:=by decide):PE X (.Name x pos) (tC (.str i)):=by
 obtain⟨t,e⟩:=h;exact Xu hg e ⟨t,rfl⟩ hd
theorem Lq {X:Cx} {x:Str} {pos:Pos} (T:String) (hg:Gl X x) (hm:X.mg x=none) (hv:zCx x=some (.type T)) (hn:x ≠ "__name__" := by decide) (hd:(x==("__debug__" : Str))=false:=by decide):PE X (.Name x pos) (tC (.ty T)):=
 GH (v:=.ty T) hg hm hv rfl hn hd
theorem Rq {X:Cx} {K:zAa} (h:X.K=K):LM X (MQ K):=h▸Bp
theorem Ao {H:Hp} {p:Addr} (h:H p=none) (o:HO):Same H (upd H p o):=fun b u q=>by rw[Aw (Aq q h)]; exact q
theorem By {n:Nat} (h:n<=1000):n<=sizeLine:=Nat.le_of_lt (AO h)
theorem JE {ns:List Int} {i:Nat} {n:Int} (h:ns[i]?=some n):Of (ns.map V.int) (i:Int)=some (.int n):=Ge (by rw[zAs,h]; rfl)
theorem U6 {ns:List Int} {i:Int} (h0:0<=i) (h:i<ns.length):Of (ns.map V.int) i=some (.int (ns.getD i.toNat 0)):=by
 have e:((i.toNat:Nat):Int)=i:=by lia
 have q:=JE (ns:=ns) (i:=i.toNat) (n:=ns.getD i.toNat 0) (by rw[zAe (by lia),zAr,zAe (by lia)]; rfl);rw[e] at q;exact q
example:zCx "int" = some (.type "int"):=by rfl
def LO (K:zAa) (a:Addr):It:=
 ⟨fun i H=>∃ xs x,SqL K H a xs/\xs[i]?=some x,
   fun i H x H'=>∃ t y,x = .ref t/\H t=none/\(∀ xs,SqL K H a xs->xs[i]?=some y)/\H'=upd H t (.tup [.int i,y]),
   fun i H=>∃ xs,SqL K H a xs/\xs.length<=i⟩
theorem AF {P:Program} {w:World} {K:zAa} {elts:List Expr} {k:Nat} {tp:Pos} (a e it:Addr) (hei:e≠it) :
  C0 P w K (.Tuple elts k tp) (LO K a) [e,it] e (fun i h=>(∃ old,IsEnum h e it i old)/\h.IsListIter it a i) where
 mem:=by simp
 obj:=fun i h st b hb=>by
  obtain⟨⟨old,he⟩,o,ho,c,d⟩:=st;rcases zAn.mp hb with rfl | hb
  ·exact⟨_,he,fun v z=>by
    have z':Data.fields _=Data.cell v:=z;cases z'⟩
  ·have eb:b=it:=by simpa using hb
   subst eb;exact⟨o,ho,fun v z=>by rw[d] at z; cases z⟩
 keep:=fun i h h' st kk=>by
  obtain⟨⟨old,he⟩,hit⟩:=st;exact⟨⟨old,kk e (by simp) _ he⟩,hit.at fun o x=>kk it (by simp) o x⟩
 item:=by
  intro X hP hw hK hc i pins s σ H E I hf st hg;subst hP hw hK;obtain⟨⟨old,he⟩,hit⟩:=st;obtain⟨xs,x,hq,hx⟩:=hg;obtain⟨its,rv,p,hz⟩:=I.list hq;obtain⟨u,hu,ru⟩:=rv.get hx;obtain⟨e0,e1,e2,e3,e4,e5⟩:=hf e (by simp);obtain⟨i0,i1,i2,i3,i4,i5⟩:=hf it (by simp);refine wpAny_pyNext_enum_item he hit p.isList (x:=u) (by simpa using hu) hei fun h1 ho hit1 hT hsz hk=>⟨_,rfl,?_⟩;refine wpAny_letOwnedTupleGo_enum ho fun h2 he2 hs2=>?_;have hs2':zBg e h1 h2:=hs2;have helt:e<s.heap.objs.size:=zAq he;have hnT:H s.heap.objs.size=none:=I.hok.fresh (zAl _);have up:∀ b o,b≠e->b≠it->s.heap.get? b=some o->h2.get? b=some o:=fun b o h3 h4 q=>(hs2'.2 b h3).trans (hk b o h3 h4 q);have nch:∀ b,b∉[e,it]->b≠e/\b≠it:=fun b hb=>⟨fun z=>hb (by simp [z]),fun z=>hb (by simp [z])⟩;have ntr:∀ b o,H b=some o->b≠e/\b≠it:=fun b o q=>⟨fun z=>by (rw[z,e0] at q; cases q),fun z=>by (rw[z,i0] at q; cases q)⟩;have htup:h2.get? s.heap.objs.size=some { cls:=.type "tuple",data:=.seq #[.int i s.toks,u] }:=(hs2'.2 _ (zBs helt)).trans hT;have I1:Inv X pins σ (upd H s.heap.objs.size (.tup [.int i,x])) { s with heap:=h2,gens:=s.gens,drawn:=s.drawn,toks:=s.toks+1 }:=by
   refine I.step (ch:=[e,it]) (fun b hb=>?_) (fun b o _ _ hb q _=>up b o (nch b hb).1 (nch b hb).2 q) (fun b o _ _ hb q _=>⟨o.slots,up b o (nch b hb).1 (nch b hb).2 q⟩) (fun b o _ q n=>by rw[Aw (zAu (zAq q))]; exact n)
    (fun b o hb q=>⟨o,up b o (nch b hb).1 (nch b hb).2 q⟩) (fun b xs q=>by rw[Aw (Aq q hnT)]; exact q) (fun b o u q=>by rw[Aw (Aq q hnT)]; exact q) (fun b ps q=>⟨#[],by rw[Aw (Aq q hnT),q]; simp⟩)
    (fun m hm=>?_) (fun b o q=>?_) I.bare
   ·rcases zAn.mp hb with rfl | hb
    ·exact⟨e3,e1,e4,e5⟩
    ·have eb:b=it:=by simpa using hb
     subst eb;exact⟨i3,i1,i4,i5⟩
   ·obtain⟨o,es,ep,hoL,r⟩:=hm
    exact⟨o,es,ep,up _ o (Ne.symm e1) (Ne.symm i1) hoL,r⟩
   ·by_cases hb:b=s.heap.objs.size
    ·subst hb
     rw[Ac] at q;cases q;exact⟨By (by show 2<=1000; decide),[.int i s.toks,u],.cons ⟨_,rfl⟩ (.cons ru .nil),_,htup,rfl,_,rfl⟩
    ·rw[Aw hb] at q
     refine (I.hok b o q).stay (fun c v hc2 q2=>?_) (fun c q2=>by rw[Aw (Aq q2 hnT)]; exact q2) (fun c xs q2=>by rw[Aw (Aq q2 hnT)]; exact q2);rcases hc2 with rfl | hc2
     ·exact up _ v (ntr _ _ q).1 (ntr _ _ q).2 q2
     ·exact up _ v (ntr _ _ hc2).1 (ntr _ _ hc2).2 q2
  refine⟨.ref s.heap.objs.size,_,I1,rfl,⟨_,x,rfl,hnT,fun ys hy=>by rw[I.list_inj hy hq]; exact hx,rfl⟩,⟨⟨u,?_⟩,?_⟩,fun b hb=>?_⟩
  ·have ei:((i+1:Nat):Int)=(i:Int)+1:=by lia
   rw[ei];exact he2
  ·exact hit1.at fun o q=>(hs2'.2 it hei.symm).trans q
  ·have hbl:b<s.heap.objs.size:=by
    rcases zAn.mp hb with rfl | hb
    ·exact helt
    ·have eb:b=it:=by simpa using hb
     subst eb;obtain⟨o,q,_⟩:=hit;exact zAq q
   rw[Aw (zAu hbl)];exact (hf b hb).1
 done:=by
  intro X hP hw hK hc i pins s σ H E I hf st hg;subst hP hw hK;obtain⟨⟨old,he⟩,hit⟩:=st;obtain⟨xs,hq,hx⟩:=hg;obtain⟨its,rv,p,hz⟩:=I.list hq;obtain⟨i0,i1,i2,i3,i4,i5⟩:=hf it (by simp);have hl:=rv.length;exact wpAny_pyNext_enum_end (I.ok.hd hc) he hit p.isList (by simp; lia) fun h' eb=>⟨rfl,I.turned (t':=s.toks) (fun b o hb q=>eb b o hb q) i0 i1 i3 i4 i5⟩
 self:=fun _ _ _ _ _ st h=>by
  obtain⟨⟨old,he⟩,_⟩:=st;exact wpAny_pyIter_enum he h
def LZ (K:zAa) (ta:TA):TI:=fun σ H R=>ta σ H fun vs H1=>∃ a,vs=[.ref a]/\(∃ xs,SqL K H1 a xs)/\R (LO K a) H1
theorem Le {X:Cx} {a:Expr} {ta:TA} {p pos tp:Pos} {elts:List Expr} {k:Nat} (hg:Gl X "enumerate") (hm:X.mg "enumerate" = none) (ha:PA X [a] ta) (hs:starEach [a] X.env=[(false,eval a X.env)]:=by rfl) :
  PI X (.Tuple elts k tp) (.Call (.Name "enumerate" p) [a] [] pos) (LZ X.K ta):=by
 intro pins s σ H R I h;refine Call_ (Hv I hg hm (show zCx "enumerate" = some (.type "enumerate") from rfl) (PyProof.Rows.callWith_type1 (Db (ha pos pins s σ H _ I h) fun us s1 ⟨vs,H1,I1,r1,q1⟩=>?_) hs rfl));obtain⟨a,ev,⟨xs,hq⟩,q⟩:=q1;subst ev;obtain⟨u,rfl,rx⟩:=Jm r1;cases rx;obtain⟨its,rv,pl,hz⟩:=I1.list hq;refine call_enumerate_list pl.isList fun h' he hit hsz hk=>?_;refine wpAny_pyIter_enum he ?_;have I2:Inv X pins σ H1 { s1 with heap:=h' }:=I1.kept (t':=s1.toks) hk;refine⟨_,[s1.heap.objs.size+1,s1.heap.objs.size],_,_,H1,rfl,I2,AF a _ _ (Nat.succ_ne_self _),⟨⟨_,he⟩,hit⟩,fun b hb=>?_,q⟩;rcases zAn.mp hb with rfl | hb
 ·exact I1.fpOk (zBh _) (I1.hok.fresh (zBh _))
 ·have eb:b=s1.heap.objs.size:=by simpa using hb
  subst eb;exact I1.fpOk (zAl _) (I1.hok.fresh (zAl _))
theorem Ri {X:Cx} {K:zAa} {es:List Expr} {k:Nat} {t:II} {n:Nat} {pos:Pos} (hK:X.K=K) (hc:X.calm=true) (h:LU X es t)
  (hn:(assignEach es X.env).length=n:=by rfl) (hst:(assignEach es X.env).findIdx? (·.1)=none:=by rfl):PG X (.Tuple es k pos) (AZ K n t):=hK▸Ez hc h hn hst
theorem Ww {K K':zAa} {a:Addr} {xs:List V} {tc:TT} {te:TE} {σ:St} {ix:List Nat} {QQ:Hp->Prop} {H1:Hp} {p:Addr} (Pv:Nat->List V->Hp->Prop) (h0:Pv 0 [] (upd H1 p (.lst [])))
  (hp:∀ i ys H,i<=xs.length->Pv i ys H->H p=some (.lst ys)/\ys.length<=i/\SqL K H a xs) (hn:xs.length<=sizeLine)
  (hs:∀ i x ys H t,xs[i]?=some x->Pv i ys H->H t=none->tc (some (.int i)::some x::Ei ix σ) (upd H t (.tup [.int i,x])) fun b H5=>if b=true then te (some (.int i)::some x::Ei ix σ) H5 fun y H6=>H6 p=some (.lst ys) /\
   (some (.int i)::some x::Ei ix σ)=(some (.int i)::some x::Ei ix σ)/\Pv (i+1) (ys++[y]) (upd H6 p (.lst (ys++[y]))) else (some (.int i)::some x::Ei ix σ)=(some (.int i)::some x::Ei ix σ)/\Pv (i+1) ys H5)
  (hd:∀ ys H,Pv xs.length ys H->QQ H) :
  Wk (AZ K' 2 (Kn (Er 0) (Kn (Er 1) EE))) tc te 2 ix σ (LO K a) p H1 QQ:=by
 refine⟨fun i m ys σ2 H2=>m=xs.length-i/\i<=xs.length/\(∃ o o',σ2=o::o'::Ei ix σ)/\Pv i ys H2,⟨xs.length,by simp,zAA _,⟨none,none,rfl⟩,h0⟩,?_⟩;rintro i m ys σ2 H2 ⟨rfl,hi,⟨o,o',rfl⟩,pv⟩;obtain⟨hp2,hl2,hq2⟩:=hp i ys H2 hi pv;refine⟨hp2,?_⟩;by_cases hlt:i<xs.length
 ·refine .inr ⟨⟨xs,xs[i],hq2,by simp [hlt]⟩,by lia,fun x H3 y=>?_⟩
  obtain⟨t,z,ex,ht,hz,e3⟩:=y;subst ex e3;refine⟨fun ys' σ' H'=>σ'=(some (.int i)::some z::Ei ix σ)/\Pv (i+1) ys' H',fun ys' σ' H' ⟨e,q⟩=>⟨xs.length-(i+1),by lia,rfl,hlt,⟨_,_,e⟩,q⟩,?_⟩;exact⟨t,_,rfl,SqT.of Ac,rfl,_,_,rfl,_,_,rfl,rfl,hs i z ys H2 t (hz xs hq2) pv ht⟩
 ·have e:i=xs.length:=by lia
  subst e;exact .inl ⟨⟨xs,hq2,zAl _⟩,hd ys H2 pv⟩
structure Hi (P:Program) (w:World) (K:zAa) (mg:Str->Option Value) (base:Heap) (k:Nat) (C:Addr) (m:Str) (ps:List Str) (sp:Sp):Prop where
 ex:∃ f fd,FnOk P w K mg base Da k f fd ps sp/\Binds K fd ps []/\Em K C m f
 cl:Cls K C
theorem Du {X:Cx} {k:Nat} {C:Addr} {m:Str} {ps:List Str} {sp:Sp} {e o:Expr} {es:List Expr} {apos pos:Pos} {ta:TE} {t:TA} {pl:Sem Bool} (M:Hi X.prog X.w X.K X.mg X.base k C m ps sp) (hr:Room k X.A) (he:PE X o ta) (ha:PA X (e::es) t)
  (hst:starEach (e::es) X.env=(false,eval e X.env)::starEach es X.env:=by rfl) (hpl:(backTo pos (starEach es X.env)).any (·.1)=false:=by rfl)
  (ht:eval (.Call (.Attribute o m apos) (e::es) [] pos) X.env=(do
   let ov <- eval o X.env
   standAt apos.atName
   let (f,first) <- holding [ov] (getMethod ov m pl)
   callWith pos f first (backTo pos (starEach (e::es) X.env)) (backToKw pos (keywordEach [] X.env))):=by rfl) :
  PE X (.Call (.Attribute o m apos) (e::es) [] pos) (IH C m sp [] E0 ta t):=by
 obtain⟨f,fd,F,b,hm⟩:=M.ex;exact GE he M.cl hm F hr b .nil Xe ha hst hpl ht
structure Es (P:Program) (w:World) (K:zAa) (mg:Str->Option Value) (base:Heap) (k:Nat) (x:Str) (C:Addr) (ps:List Str) (sp:Sp):Prop where
 ex:∃ f fd,Mk K C f/\FnOk P w K mg base Da k f fd ps sp/\Binds K fd ps []/\mg x=some (.ref C)
theorem Dp {X:Cx} {k:Nat} {x:Str} {C:Addr} {ps:List Str} {sp:Sp} {e:Expr} {es:List Expr} {p pos:Pos} {t:TA} (M:Es X.prog X.w X.K X.mg X.base k x C ps sp) (hr:Room (k+1) X.A) (hg:Gl X x) (ha:PA X (e::es) t)
  (hdb:(x==("__debug__" : Str))=false:=by decide) (he:starEach (e::es) X.env=(false,eval e X.env)::starEach es X.env:=by rfl) (hpl:(backTo pos (starEach es X.env)).any (·.1)=false:=by rfl) :
  PE X (.Call (.Name x p) (e::es) [] pos) (R7 C sp [] E0 t):=by
 obtain⟨f,fd,mk,F,b,hm⟩:=M.ex;exact HD mk F hr hg hm b .nil Xe ha hdb he hpl
theorem LL {X:Cx} (hc:X.calm=true):Gr X (.builtin "min") (fun xs H Q=>∃ p,∃ ns:List Int,xs=[.ref p]/\SqL X.K H p (ns.map V.int)/\ns≠[]/\∀ m∈ns,Q (.int m) H):=by
 intro pins s σ H xs us Q I r h;obtain⟨p,ns,rfl,hq,hne,q⟩:=h;obtain⟨u,rfl,rx⟩:=Jm r;cases rx;obtain⟨its,rv,pl,hz⟩:=I.list hq;have hi:IntsAre its ns:=Mf rv;obtain⟨ys,ey⟩:=hi.allInts.items;have hl:s.heap.IsList p (intItems ys):=ey▸pl.isList;have lenI:its.length=ns.length:=hi.length;have hy:ys.size=ns.length:=by
  have z:=congrArg Array.size ey;rw[zAh] at z;unfold intItems at z;rw[Array.size_map] at z
  lia
 have hpos:0<ns.length:=List.length_pos_iff.mpr hne;refine min_intList (I.ok.hd hc) hl (by lia) fun v h' tk hv hk=>?_;rw[<- ey] at hv;have hv':∃ j,its[j]?=some v:=⟨_,by simpa using hv⟩;obtain⟨j,hj⟩:=hv';have hlt:j<ns.length:=by have:=(zAj.mp hj).1; lia
 obtain⟨u,hu,ru⟩:=rv.get (i:=j) (x:=.int ns[j]) (by rw[zAs,zAe hlt]; rfl);rw[hj] at hu;cases hu;exact⟨.int ns[j],H,I.kept hk,ru,q _ (zBb _)⟩
section
variable {X:Cx} {pins:List (Addr×Obj)} {σ:St} {H H':Hp} {s:Shared} {h':Heap}
end
section
variable {X:Cx} {k:Nat} {f:Addr} {fd:zCy} {ps:List Str} {sp:Sp} {x:Str} {p pos:Pos} {e:Expr} {es:List Expr} {t:TA} {W:St->XK}
end
section
variable {X:Cx} {pins pins' pn:List (Addr×Obj)} {σ:St} {H:Hp} {s:Shared} {E:Value->Shared->Prop} {e:Addr}
end
section
variable {X:Cx} {x n:Str} {Ch:Addr} {i:Nat} {body suite:List Stmt} {b₀ : Stmt} {tb:(St->XK)->TS} {ts:TS} {np hpos pos:Pos}
end
structure IV (k:Nat) (A:Around):Prop where
 dp:A.depth+3*k+5<recursionLimit
 un:A.units+16*k+200<cLine
structure MI (P:Program) (w:World) (K:zAa) (mg:Str->Option Value) (base:Heap) (k:Nat) (f:Addr) (fd:zCy) (ps:List Str) (sp:Sp):Prop where
 len:∀ vs H Q E,sp vs H Q E->vs.length=ps.length
 run:∀ (A:Around) (outer:List Env) (s:Shared) (H:Hp) (args:Args) (us:List Value) (vs:List V) (Q:VK) (E:XK),IV k A->Env0 P w K mg base A outer s H->BindsTo s fd args (ps.zip us)->Vals vs us->sp vs H Q E ->
  codeAny (model P w) A (.call (.ref f) args) (CR Da outer P w H s Q E) s
structure OR (P:Program) (w:World) (K:zAa) (mg:Str->Option Value) (base:Heap) (k:Nat) (x:Str) (ps:List Str) (sp:Sp):Prop where
 ex:∃ f fd,MI P w K mg base k f fd ps sp/\Binds K fd ps []/\zAQ K (.ref f)=true/\mg x=some (.ref f)
section
variable {X:Cx} {k:Nat} {f:Addr} {fd:zCy} {ps:List Str} {sp:Sp} {x:Str} {p pos:Pos} {e:Expr} {es:List Expr} {t:TA}
theorem MW (C:OR X.prog X.w X.K X.mg X.base k x ps sp) (hr:IV k X.A) (hg:Gl X x) (ha:PA X (e::es) t)
  (hdb:(x==("__debug__" : Str))=false:=by decide) (he:starEach (e::es) X.env=(false,eval e X.env)::starEach es X.env:=by rfl) (hpl:(backTo pos (starEach es X.env)).any (·.1)=false:=by rfl) :
  PE X (.Call (.Name x p) (e::es) [] pos) (V7 sp [] E0 t):=by
 intro pins s σ H Q I h;obtain⟨f,fd,F,b,kp,hm⟩:=C.ex;refine wpAny_Call_Name_kw (Hc I hg hm ?_ hdb);refine zBC (h₀ := X.base) I.ok.mod.kin kp (Db (ha pos pins s σ H _ I h) fun us s1 ⟨vs,H1,I1,r,q⟩=>⟨I1.kIn,?_⟩) he hpl;have q:sp vs H1 Q E0:=by
  have q':sp (vs++[]) H1 Q E0:=q;rw[zAU] at q';exact q'
 have hl:(us++[]).length=ps.length:=by rw[zAU,<- r.length]; exact F.len _ _ _ _ q
 have b':=b s1 us I1.kIn hl;rw[zAU] at b';refine wpAny_call (codeAny_mono (F.run X.A X.stack s1 H1 ⟨us,[]⟩ us vs Q E0 hr I1.env0 b' r q) fun y s' hq=>?_);cases y with
 | error v=>exact False.elim hq
 | ok fl=>
  cases fl with
  | ret u=>exact I1.after hq
  | next=>exact False.elim hq
  | brk=>exact False.elim hq
  | cont=>exact False.elim hq
end
def tx (l:List Nat):Str:=⟨l.toArray⟩
theorem Dr (l:List Nat):(tx l).length=l.length:=by simp [tx,Str.length]
theorem X3 (x:Str):tx x.cps.toList=x:=by cases x; rfl
theorem Il (l m:List Nat):tx l++tx m=tx (l++m):=by
 show (⟨l.toArray++m.toArray⟩:Str)=⟨(l++m).toArray⟩;rw[List.append_toArray]
def Vz (c:Nat):List Nat->List (List Nat)
 | []=>[[]]
 | x::l=>if x=c then []::Vz c l else match Vz c l with
  | []=>[[x]]
  | p::r=>(x::p)::r
theorem LR (c:Nat):∀ l,Vz c l≠[]
 | []=>by simp [Vz]
 | x::l=>by
  unfold Vz
  split
  ·simp
  ·cases Vz c l <;> simp
section
variable {X:Cx}
theorem Z5:Lh X (compareOp .NotIn) (fun x y H Q=>∃ c z,x = .str (tx [c])/\y = .str z/\Q (.bl (!decide (c∈z.cps.toList))) H):=by
 intro pins s σ H x y v u Q I rx ry h;obtain⟨c,z,rfl,rfl,q⟩:=h;refine Yt pins s σ H _ _ v u Q I rx ry ⟨tx [c],z,rfl,rfl,?_⟩;rw[show (!(Builtin.Str.occurrences z (tx [c]) 0 z.length 1).isEmpty)=decide (c∈z.cps.toList) from StrLaws.found_one z c];exact q
def LN (x:Str):It:=⟨fun i _=>i<x.cps.size,fun i H v H'=>H'=H/\∃ c,x.cps[i]?=some c/\v = .str (tx [c]),fun i _=>x.cps.size<=i⟩
theorem Z0 {P:Program} {w:World} {K:zAa} {tg:Expr} (x:Str) (t:Tok) (it:Addr):C0 P w K tg (LN x) [it] it (fun i h=>h.IsStrIter it "str_ascii_iterator" x t i) where
 mem:=by simp
 obj:=fun i h st b hb=>by
  have e:b=it:=by simpa using hb
  subst e;obtain⟨o,e,c,d⟩:=st;exact⟨o,e,fun v z=>by rw[d] at z; cases z⟩
 keep:=fun i h h' st k=>by
  obtain⟨o,e,c,d⟩:=st;exact⟨o,k it (by simp) o e,c,d⟩
 item:=by
  intro X hP hw hK hc i pins s σ H E I hf st hg;subst hP hw hK;obtain⟨f0,f1,f2,f3,f4,f5⟩:=hf it (by simp);have hi:i<x.cps.size:=hg;refine wpAny_pyNext_ascii_item st (c:=x.cps[i]) (by simp [hi]) fun h' st' sb=>?_;have I1:Inv X pins σ H { s with heap:=h',toks:=s.toks+1 }:=I.turned (fun b o hb e=>(sb.2 b hb).trans e) f0 f1 f3 f4 f5;obtain⟨o,e,c,d⟩:=id st';exact⟨_,rfl,V8 (s:={ s with heap:=h',toks:=s.toks+1 }) e c d (by decide) ⟨.str (tx [x.cps[i]]),H,I1,⟨_,rfl⟩,⟨rfl,_,by simp [hi],rfl⟩,st',fun b hb=>(hf b hb).1⟩⟩
 done:=by
  intro X hP hw hK hc i pins s σ H E I hf st hg;subst hP hw hK;obtain⟨f0,f1,f2,f3,f4,f5⟩:=hf it (by simp);have hi:x.cps.size<=i:=hg;exact wpAny_pyNext_ascii_end (I.ok.hd hc) st (by simp; lia) fun h' eb=>⟨rfl,I.turned (t':=s.toks) (fun b o hb e=>eb b o hb e) f0 f1 f3 f4 f5⟩
 self:=fun _ _ _ _ _ st h=>wpAny_pyIter_striter_ascii st h
theorem Z8 {P:Program} {w:World} {K:zAa} {tg:Expr} (x:Str) (t:Tok) (it:Addr):C0 P w K tg (LN x) [it] it (fun i h=>h.IsStrIter it "str_iterator" x t i) where
 mem:=by simp
 obj:=fun i h st b hb=>by
  have e:b=it:=by simpa using hb
  subst e;obtain⟨o,e,c,d⟩:=st;exact⟨o,e,fun v z=>by rw[d] at z; cases z⟩
 keep:=fun i h h' st k=>by
  obtain⟨o,e,c,d⟩:=st;exact⟨o,k it (by simp) o e,c,d⟩
 item:=by
  intro X hP hw hK hc i pins s σ H E I hf st hg;subst hP hw hK;obtain⟨f0,f1,f2,f3,f4,f5⟩:=hf it (by simp);have hi:i<x.cps.size:=hg;refine wpAny_pyNext_wide_item st (c:=x.cps[i]) (by simp [hi]) fun h' st' sb=>?_;have I1:Inv X pins σ H { s with heap:=h',toks:=s.toks+1 }:=I.turned (fun b o hb e=>(sb.2 b hb).trans e) f0 f1 f3 f4 f5;obtain⟨o,e,c,d⟩:=id st';exact⟨_,rfl,V8 (s:={ s with heap:=h',toks:=s.toks+1 }) e c d (by decide) ⟨.str (tx [x.cps[i]]),H,I1,⟨_,rfl⟩,⟨rfl,_,by simp [hi],rfl⟩,st',fun b hb=>(hf b hb).1⟩⟩
 done:=by
  intro X hP hw hK hc i pins s σ H E I hf st hg;subst hP hw hK;obtain⟨f0,f1,f2,f3,f4,f5⟩:=hf it (by simp);have hi:x.cps.size<=i:=hg;exact wpAny_pyNext_wide_end (I.ok.hd hc) st (by simp; lia) fun h' eb=>⟨rfl,I.turned (t':=s.toks) (fun b o hb e=>eb b o hb e) f0 f1 f3 f4 f5⟩
 self:=fun _ _ _ _ _ st h=>wpAny_pyIter_striter_wide st h
def OT (tl:TE):TI:=fun σ H R=>tl σ H fun x H1=>∃ z,x = .str z/\R (LN z) H1
theorem JB {tg l:Expr} {tl:TE} (hl:PE X l tl):PI X tg l (OT tl):=by
 intro pins s σ H R I h;refine Db (hl pins s σ H _ I h) fun v s1 ⟨x,H1,I1,r1,q1⟩=>?_;obtain⟨z,e,q⟩:=q1;subst e;obtain⟨t,rfl⟩:=r1;have fp:∀ b∈[s1.heap.objs.size],Oh X pins H1 b:=fun b hb=>by
  have e:b=s1.heap.objs.size:=by simpa using hb
  subst e;exact I1.fpOk (zAl _) (I1.hok.fresh (zAl _))
 cases ha:z.cps.all (· < 128) with
 | true=>exact wpAny_pyIter_ascii ha ⟨s1.heap.objs.size,[s1.heap.objs.size],_,_,H1,rfl,I1.kept (t':=s1.toks) fun b o e=>zAf _ e,Z0 z t _,⟨_,zAy _ rfl,rfl,rfl⟩,fp,q⟩
 | false=>exact wpAny_pyIter_wide ha ⟨s1.heap.objs.size,[s1.heap.objs.size],_,_,H1,rfl,I1.kept (t':=s1.toks) fun b o e=>zAf _ e,Z8 z t _,⟨_,zAy _ rfl,rfl,rfl⟩,fp,q⟩
theorem FS {l:List Nat} {g:TG} {tb:TS} {D:Qy} {σ:St} {H:Hp} (Pv:Nat->St->Hp->Prop) (h0:Pv 0 σ H)
  (hs:∀ i c σ H,l[i]?=some c->Pv i σ H->g (.str (tx [c])) σ H fun σ2 H2=>tb { D with nx:=Pv (i+1),ct:=Pv (i+1),bk:=D.nx } σ2 H2) (hd:∀ σ H,Pv l.length σ H->D.nx σ H) :
  ∃ W:Nat->Nat->St->Hp->Prop,(∃ m,W 0 m σ H)/\∀ i m σ H,W i m σ H ->
   ((LN (tx l)).stop i H/\D.nx σ H)\/((LN (tx l)).go i H/\∃ N:St->Hp->Prop,(∀ σ' H',N σ' H'->∃ m',m'<m/\W (i+1) m' σ' H')/\∀ x H',(LN (tx l)).yld i H x H'->g x σ H' fun σ2 H2=>tb { D with nx:=N,ct:=N,bk:=D.nx } σ2 H2):=by
 have hz:(tx l).cps.size=l.length:=by simp [tx]
 refine⟨fun i m σ H=>m=l.length-i/\i<=l.length/\Pv i σ H,⟨l.length,by simp,zAA _,h0⟩,?_⟩;rintro i m σ H ⟨rfl,hi,p⟩;by_cases hlt:i<l.length
 ·refine .inr ⟨by show i<(tx l).cps.size; lia,Pv (i+1),fun σ' H' p'=>⟨l.length-(i+1),by lia,rfl,hlt,p'⟩,fun x H' y=>?_⟩
  obtain⟨e,c,hc,y⟩:=y;subst e y;exact hs i c σ _ (by simpa [tx] using hc) p
 ·have e:i=l.length:=by lia
  subst e;exact .inl ⟨by show (tx l).cps.size<=l.length; lia,hd σ H p⟩
end
section
variable {prog:Program} {w:World} {A:Around} {E:Value->Shared->Prop} {K:zAa} {x D:Addr} {ox:Obj} {od:Option Obj}
end
theorem JC {X:Cx} {x:Str} {C:Addr} {pos:Pos} (hg:Gl X x) (hm:X.mg x=some (.ref C)) (hd:(x==("__debug__" : Str))=false:=by decide):PE X (.Name x pos) (tC (.ref C)):=Xu (v:=.ref C) hg hm rfl hd
section
variable {X:Cx} {k:Nat} {f C:Addr} {fd:zCy} {ps:List Str} {sp:Sp} {x:Str} {p pos:Pos} {e:Expr} {es:List Expr} {t:TA} {W:St->XK}
end
section
variable {X:Cx} {x:Str} {C f:Addr} {p pos:Pos} {e:Expr} {es:List Expr} {t:TA}
end
section
variable {prog:Program} {w:World} {A:Around} {Ex:Value->Shared->Prop} {hp:Heap} {gs:Array GenState} {dr:Drawn} {tk:Nat} {os:OsState}
variable {nm q:Str} {C N fI:Addr} {bs bm bmB:List Value} {hdct:Bool} {sn:List Str} {sub:List Value} {ab:Bool} {col:Option Bool} {dd:Option Addr} {k0 k1 k2 k3 k5:Option Value} {B newId initId:String} {mN:Str->Option Value} {us:List Value} {oI:Obj}
theorem Vn {Q:Fin->Shared->Prop} (FB:ExcBaseFacts B newId initId bmB) (T:OwnTail hp bmB bm) (cO:hp.get? C=some (excClassObj nm q C N bs bm hdct sn sub ab col dd k0 k1 k2 k3 k5 newId)) (nN:hp.Ns N mN)
  (iN:mN "__init__" = some (.ref fI)) (fO:hp.get? fI=some oI) (fC:oI.cls = .type "function") (sz:us.length<=sizeLine)
  (k:∀ h1 e,Heap.MadeExcOf hp h1 e (.ref C) us->wpAny (model prog w) A (call (.ref fI) (.ref e::us)) (fun r s1=>r = .none/\Q (.done (.ret (.ref e))) s1) Ex ⟨h1,gs,dr,tk,os⟩) :
  wpAny (model prog w) A (Builtin.«type.__call__» ⟨.ref C::us,[]⟩) Q Ex ⟨hp,gs,dr,tk,os⟩:=by
 repeat (first | with_reducible refine wpAny_loadPart_at cO ?_ | with_reducible refine wpAny_madeBy_exc cO ?_ | wp_step)
 refine codeAny_call_builtin_code (Code.quiet_builtin _ FB.quiet) (wpAny_check_new_subT FB T cO (codeAny_exc_new_subT FB T cO ?_ sz));show wpAny _ _ _ _ _ _;have keep:∀ b o,hp.get? b=some o->((hp.push { cls:=.type "tuple",data:=.seq us.toArray }).push { cls:=.ref C,data:=.fields #[.ref hp.objs.size,.none,.none,.none,.bool false,.none] }).get? b=some o:=
  fun b o z=>zAf _ (zAf _ z)
 have cO1:=keep _ _ cO;have new:((hp.push { cls:=.type "tuple",data:=.seq us.toArray }).push { cls:=.ref C,data:=.fields #[.ref hp.objs.size,.none,.none,.none,.bool false,.none] }).get? (hp.objs.size+1)
   = some { cls:=.ref C,data:=.fields #[.ref hp.objs.size,.none,.none,.none,.bool false,.none] }:=by heap_get
 have inC:(Value.ref C::bm).contains (.ref C)=true:=by simp
 unfold isInstance
 repeat (first | with_reducible refine wpAny_loadPart_at new ?_ | (with_reducible refine wpAny_isSubtype_exc cO1 ?_; rw[inC]) | wp_step)
 show wpAny _ _ (typeLookup (.ref C) _) _ _ _;refine wpAny_typeLookup_tail cO1 (nN.keeps keep) (T.keeps keep) FB.mroIs FB.init.lookup ?_;rw[iN];refine wpAny_holding (zCu ?_);unfold bindSpecial;refine zCu (wpAny_typeOf (T := "function") ⟨_,keep _ _ fO,fC⟩ ?_);rw[if_pos (by decide)];refine zCv (zCu (wpAny_mono (k _ (hp.objs.size+1) ⟨keep,Heap.get?_none_of_le (zBh _),hp.objs.size,new,Heap.get?_none_of_le (zAl _),?_⟩) (fun r s1 hr=>?_) fun _ _ z=>z))
 ·exact zAf _ (Heap.get?_push_at rfl rfl)
 ·obtain⟨rfl,hQ⟩:=hr
  wp_walk
  exact hQ
theorem LX {Q:Value->Shared->Prop} (FB:ExcBaseFacts B newId initId bmB) (T:OwnTail hp bmB bm) (cO:hp.get? C=some (excClassObj nm q C N bs bm hdct sn sub ab col dd k0 k1 k2 k3 k5 newId)) (nN:hp.Ns N mN)
  (iN:mN "__init__" = some (.ref fI)) (fO:hp.get? fI=some oI) (fC:oI.cls = .type "function") (sz:us.length<=sizeLine)
  (k:∀ h1 e,Heap.MadeExcOf hp h1 e (.ref C) us->wpAny (model prog w) (A.under (.builtin "type.__call__" ⟨.ref C::us,[]⟩)) (call (.ref fI) (.ref e::us)) (fun r s1=>r = .none/\Q (.ref e) s1) Ex ⟨h1,gs,dr,tk,os⟩) :
  wpAny (model prog w) A (call (.ref C) us) Q Ex ⟨hp,gs,dr,tk,os⟩:=by
 have l1:=tc_lookup;have l2:=tc_bind (.ref C);have isT:(⟨hp,gs,dr,tk,os⟩:Shared).TypeIs (.ref C) "type" := ⟨_,cO,rfl⟩;refine wpAny_call (codeAny_of_tree ?_);show wpAny _ _ (callAny (.ref C) _) _ _ _
 repeat (any_goals (first | assumption | with_reducible refine wpAny_loadPart_at cO ?_ | wp_step))
 refine⟨rfl,codeAny_call_builtin_at (Code.quiet_builtin _ (by decide +kernel)) entry_typeCall (wpAny_check_type_call_sub cO (Vn FB T cO nN iN fO fC sz fun h1 e m=>?_))⟩;exact k h1 e m
end
section
variable {prog:Program} {w:World} {A:Around} {E:Value->Shared->Prop} {K:zAa} {x D:Addr} {ox:Obj} {od:Option Obj}
end
section
variable {X:Cx} {pins:List (Addr×Obj)} {σ:St} {H:Hp} {s:Shared} {e:Addr}
end
section
variable {X:Cx} {x f:Str} {C g:Addr} {p pos apos:Pos} {e o value:Expr} {es:List Expr} {t:TA} {ta tv:TE}
end
section
variable {X:Cx}
end
inductive D where
 | at (v:V)
 | seq (t:Bool) (ds:List D)
mutual
def Wg (K:zAa) (H:Hp):D->V->Prop
 | .at v,x=>x=v/\Fb v=true
 | .seq t ds,x=>∃ a xs,x = .ref a/\(t=true->SqT K H a xs)/\(t=false->SqL K H a xs)/\Reps K H ds xs
def Reps (K:zAa) (H:Hp):List D->List V->Prop
 | [],xs=>xs=[]
 | d::ds,xs=>∃ y ys,xs=y::ys/\Wg K H d y/\Reps K H ds ys
end
mutual
def BJ:D->D->Bool
 | .at v,.at u=>Wl v u
 | .seq t ds,.seq u es=>t==u&&eqDs ds es
 | _,_=>false
def eqDs:List D->List D->Bool
 | [],[]=>true
 | d::ds,e::es=>BJ d e&&eqDs ds es
 | _,_=>false
end
mutual
def MG:D->Nat
 | .at _=>0
 | .seq _ ds=>deps ds+1
def deps:List D->Nat
 | []=>0
 | d::ds=>max (MG d) (deps ds)
end
theorem Reps.len {K:zAa} {H:Hp}:∀ {ds:List D} {xs:List V},Reps K H ds xs->ds.length=xs.length
 | [],xs,h=>by unfold Reps at h; subst h; rfl
 | d::ds,xs,h=>by
  unfold Reps at h;obtain⟨y,ys,rfl,_,h⟩:=h;rw[zAg,zAg,Reps.len h]
def NJ (ds es:List D) (j:Nat):Bool:=match ds[j]?,es[j]? with
 | some d,some e=>BJ d e
 | _,_=>true
theorem Tj:∀ {ds es:List D},ds.length≠es.length->eqDs ds es=false
 | [],[],h=>absurd rfl h
 | [],_::_,_=>by unfold eqDs; rfl
 | _::_,[],_=>by unfold eqDs; rfl
 | d::ds,e::es,h=>by
  unfold eqDs;rw[Tj (ds:=ds) (es:=es) fun q=>h (by rw[zAg,zAg,q]),zBI]
theorem Tn:∀ {ds es:List D},ds.length=es.length->(zAL ds.length).all (NJ ds es)=eqDs ds es
 | [],[],_=>by unfold eqDs; rfl
 | [],_::_,h=>by simp at h
 | _::_,[],h=>by simp at h
 | d::ds,e::es,h=>by
  have ih:=Tn (ds:=ds) (es:=es) (by simpa using h);unfold eqDs;rw[zAg,List.range_succ_eq_map,zCg,List.all_map,<- ih];rfl
theorem BF {v:V} (h:Fb v=true):Wl v v=true:=by
 cases v <;> first | exact absurd (show false=true from h) zAm | rfl | simp [Wl]
section
variable {X:Cx} {pins:List (Addr×Obj)} {σ:St} {H:Hp} {s:Shared}
theorem E3 {a:Addr} {xs ys:List V} (I:Inv X pins σ H s) (h1:SqL X.K H a xs) (h2:SqT X.K H a ys):False:=by
 obtain⟨its,_,p,_⟩:=I.list h1;obtain⟨js,_,q,_⟩:=I.tuple h2;exact SeqAt.ne_of_list_tuple p.isList q rfl
mutual
theorem E7 (I:Inv X pins σ H s):∀ (d e:D) (x:V),Wg X.K H d x->Wg X.K H e x->BJ d e=true
 | .at v,.at u,x,h1,h2=>by
  unfold Wg at h1 h2;obtain⟨rfl,f⟩:=h1;obtain⟨rfl,_⟩:=h2;unfold BJ;exact BF f
 | .at v,.seq t ds,x,h1,h2=>by
  unfold Wg at h1 h2;obtain⟨rfl,f⟩:=h1;obtain⟨a,xs,rfl,_⟩:=h2;exact absurd (show false=true from f) zAm
 | .seq t ds,.at u,x,h1,h2=>by
  unfold Wg at h1 h2;obtain⟨rfl,f⟩:=h2;obtain⟨a,xs,rfl,_⟩:=h1;exact absurd (show false=true from f) zAm
 | .seq t ds,.seq u es,x,h1,h2=>by
  unfold Wg at h1 h2;obtain⟨a,xs,rfl,t1,l1,r1⟩:=h1;obtain⟨b,ys,e,t2,l2,r2⟩:=h2;cases e;unfold BJ;cases t with
  | true=>
   cases u with
   | true=>
    have e:=I.tuple_inj (t1 rfl) (t2 rfl);subst e;rw[reps_same I ds es xs r1 r2];rfl
   | false=>exact (E3 I (l2 rfl) (t1 rfl)).elim
  | false=>
   cases u with
   | true=>exact (E3 I (l1 rfl) (t2 rfl)).elim
   | false=>
    have e:=I.list_inj (l1 rfl) (l2 rfl);subst e;rw[reps_same I ds es xs r1 r2];rfl
theorem reps_same (I:Inv X pins σ H s):∀ (ds es:List D) (xs:List V),Reps X.K H ds xs->Reps X.K H es xs->eqDs ds es=true
 | [],[],_,_,_=>by unfold eqDs; rfl
 | [],e::es,xs,h1,h2=>by
  unfold Reps at h1 h2;subst h1;obtain⟨_,_,e,_⟩:=h2;cases e
 | d::ds,[],xs,h1,h2=>by
  unfold Reps at h1 h2;subst h2;obtain⟨_,_,e,_⟩:=h1;cases e
 | d::ds,e::es,xs,h1,h2=>by
  unfold Reps at h1 h2;obtain⟨y,ys,rfl,h1,r1⟩:=h1;obtain⟨z,zs,e,h2,r2⟩:=h2;cases e;unfold eqDs;rw[E7 I d _ y h1 h2,reps_same I ds es ys r1 r2];rfl
end
theorem Y3 {A:Around} {v:V} {u:Value} {a:Addr} {its:Array Value} (f:Fb v=true) (r:RelV v u) (p:s.heap.IsList a its) (hu:A.units<cLine):SeqAt.EqAt A s u (.ref a) false:=by
 cases v with
 | non=>cases r; exact .none_list p hu
 | bl b=>cases r; exact .bool_list b p hu
 | int i=>obtain⟨t,rfl⟩:=r; exact .int_list i t p hu
 | str i=>obtain⟨t,rfl⟩:=r; exact .str_list i t p hu
 | _=>exact absurd (show false=true from f) zAm
theorem EJ {A:Around} {v:V} {u:Value} {a:Addr} {its:Array Value} (f:Fb v=true) (r:RelV v u) (p:s.heap.IsTuple a its) (hu:A.units<cLine):SeqAt.EqAt A s u (.ref a) false:=by
 cases v with
 | non=>cases r; exact .none_tuple p hu
 | bl b=>cases r; exact .bool_tuple b p hu
 | int i=>obtain⟨t,rfl⟩:=r; exact .int_tuple i t p hu
 | str i=>obtain⟨t,rfl⟩:=r; exact .str_tuple i t p hu
 | _=>exact absurd (show false=true from f) zAm
theorem Z7 {A:Around} {v:V} {u:Value} {a:Addr} {its:Array Value} (f:Fb v=true) (r:RelV v u) (p:s.heap.IsList a its) (hu:A.units<cLine):SeqAt.EqAt A s (.ref a) u false:=by
 cases v with
 | non=>cases r; exact .list_none p hu
 | bl b=>cases r; exact .list_bool b p hu
 | int i=>obtain⟨t,rfl⟩:=r; exact .list_int i t p hu
 | str i=>obtain⟨t,rfl⟩:=r; exact .list_str i t p hu
 | _=>exact absurd (show false=true from f) zAm
theorem BT {A:Around} {v:V} {u:Value} {a:Addr} {its:Array Value} (f:Fb v=true) (r:RelV v u) (p:s.heap.IsTuple a its) (hu:A.units<cLine):SeqAt.EqAt A s (.ref a) u false:=by
 cases v with
 | non=>cases r; exact .tuple_none p hu
 | bl b=>cases r; exact .tuple_bool b p hu
 | int i=>obtain⟨t,rfl⟩:=r; exact .tuple_int i t p hu
 | str i=>obtain⟨t,rfl⟩:=r; exact .tuple_str i t p hu
 | _=>exact absurd (show false=true from f) zAm
theorem Q9 {A:Around} {its js:List Value} {e:Nat->Bool} (h:∀ j u v,its[j]?=some u->js[j]?=some v->SeqAt.EqAt A s u v (e j)):∀ j (h1:j<its.toArray.size) (h2:j<js.toArray.size),SeqAt.EqAt A s its.toArray[j] js.toArray[j] (e j):=fun j h1 h2=>by
 rw[zAh] at h1 h2;rw[zCb,zCb];exact h j _ _ (zAe h1) (zAe h2)
theorem G0 {A:Around} {a b:Addr} {xs ys:List V} {ds es:List D} (I:Inv X pins σ H s) (hu:A.units<cLine) (h1:SqL X.K H a xs) (h2:SqL X.K H b ys) (r1:Reps X.K H ds xs) (r2:Reps X.K H es ys)
  (h:∀ its js,Vals xs its->Vals ys js->∀ j u v,its[j]?=some u->js[j]?=some v->SeqAt.EqAt A.in1 s u v (NJ ds es j)):SeqAt.RcAt A s (.ref a) (.ref b) (eqDs ds es)/\SeqAt.RcNeAt A s (.ref a) (.ref b) (!eqDs ds es):=by
 obtain⟨its,q1,p1,z1⟩:=I.list h1;obtain⟨js,q2,p2,z2⟩:=I.list h2;have l1:=q1.length;have l2:=q2.length;have m1:=r1.len;have m2:=r2.len;by_cases hl:ds.length=es.length
 ·rw[<- Tn hl,show ds.length=its.toArray.size by rw[zAh]; lia]
  have hz:its.toArray.size=js.toArray.size:=by rw[zAh,zAh]; lia
  exact⟨SeqAt.RcAt.lists p1.isList p2.isList hz hu (Q9 (h its js q1 q2)),SeqAt.RcNeAt.lists p1.isList p2.isList hz hu (Q9 (h its js q1 q2))⟩
 ·rw[Tj hl]
  have hz:(its.toArray.size != js.toArray.size)=true:=by simp only [zAh,bne_iff_ne,ne_eq]; lia
  exact⟨SeqAt.RcAt.lists_lengths p1.isList p2.isList hz hu,SeqAt.RcNeAt.lists_lengths p1.isList p2.isList hz hu⟩
theorem X0 {A:Around} {a b:Addr} {xs ys:List V} {ds es:List D} (I:Inv X pins σ H s) (hu:A.units<cLine) (h1:SqT X.K H a xs) (h2:SqT X.K H b ys) (r1:Reps X.K H ds xs) (r2:Reps X.K H es ys)
  (h:∀ its js,Vals xs its->Vals ys js->∀ j u v,its[j]?=some u->js[j]?=some v->SeqAt.EqAt A.in1 s u v (NJ ds es j)):SeqAt.RcAt A s (.ref a) (.ref b) (eqDs ds es)/\SeqAt.RcNeAt A s (.ref a) (.ref b) (!eqDs ds es):=by
 obtain⟨its,q1,p1,z1⟩:=I.tuple h1;obtain⟨js,q2,p2,z2⟩:=I.tuple h2;have l1:=q1.length;have l2:=q2.length;have m1:=r1.len;have m2:=r2.len;have e:((zAL (min its.toArray.size js.toArray.size)).all (NJ ds es)&&its.toArray.size==js.toArray.size)=eqDs ds es:=by
  rw[zAh,zAh];by_cases hl:ds.length=es.length
  ·rw[<- Tn hl,show min its.length js.length=ds.length by lia,show its.length=js.length by lia]
   simp
  ·rw[Tj hl]
   have:(its.length==js.length)=false:=by simp; lia
   rw[this,zBI]
 rw[<- e];exact⟨SeqAt.RcAt.tuples p1 p2 hu (Q9 (h its js q1 q2)),SeqAt.RcNeAt.tuples p1 p2 hu (Q9 (h its js q1 q2))⟩
mutual
theorem JW (I:Inv X pins σ H s):∀ (d e:D) (A:Around) (x y:V) (u v:Value),A.units+MG d+MG e<cLine->Wg X.K H d x->Wg X.K H e y->RelV x u->RelV y v->SeqAt.EqAt A s u v (BJ d e)
 | .at a,.at b,A,x,y,u,v,hu,h1,h2,ru,rv=>by
  unfold Wg at h1 h2;obtain⟨rfl,f⟩:=h1;obtain⟨rfl,g⟩:=h2;unfold BJ;exact J3 ru rv f g
 | .at a,.seq t es,A,x,y,u,v,hu,h1,h2,ru,rv=>by
  unfold Wg at h1 h2;obtain⟨rfl,f⟩:=h1;obtain⟨b,ys,rfl,t2,l2,_⟩:=h2;cases rv;unfold BJ;cases t with
  | true=>obtain⟨_,_,p,_⟩:=I.tuple (t2 rfl); exact EJ f ru p (by lia)
  | false=>obtain⟨_,_,p,_⟩:=I.list (l2 rfl); exact Y3 f ru p.isList (by lia)
 | .seq t ds,.at b,A,x,y,u,v,hu,h1,h2,ru,rv=>by
  unfold Wg at h1 h2;obtain⟨rfl,f⟩:=h2;obtain⟨a,xs,rfl,t1,l1,_⟩:=h1;cases ru;unfold BJ;cases t with
  | true=>obtain⟨_,_,p,_⟩:=I.tuple (t1 rfl); exact BT f rv p (by lia)
  | false=>obtain⟨_,_,p,_⟩:=I.list (l1 rfl); exact Z7 f rv p.isList (by lia)
 | .seq t ds,.seq t' es,A,x,y,u,v,hu,h1,h2,ru,rv=>by
  have k1:=h1;have k2:=h2;unfold Wg at h1 h2;obtain⟨a,xs,rfl,t1,l1,r1⟩:=h1;obtain⟨b,ys,rfl,t2,l2,r2⟩:=h2;cases ru;cases rv;unfold MG at hu;have hu':A.in1.units+deps ds+deps es<cLine:=by rw[Around.in1_units]; lia
  have hu0:A.units<cLine:=by lia
  by_cases hab:a=b
  ·subst hab
   rw[E7 I _ _ _ k1 k2];exact .same _
  ·unfold BJ
   cases t with
   | true=>
    cases t' with
    | true=>exact .of_refs hab (X0 I hu0 (t1 rfl) (t2 rfl) r1 r2 (reps_at I ds es A.in1 xs ys hu' r1 r2)).1
    | false=>
     obtain⟨_,_,p,_⟩:=I.tuple (t1 rfl);obtain⟨_,_,q,_⟩:=I.list (l2 rfl);exact .tuple_list p q.isList hu0
   | false=>
    cases t' with
    | true=>
     obtain⟨_,_,p,_⟩:=I.list (l1 rfl);obtain⟨_,_,q,_⟩:=I.tuple (t2 rfl);exact .list_tuple p.isList q hu0
    | false=>exact .of_refs hab (G0 I hu0 (l1 rfl) (l2 rfl) r1 r2 (reps_at I ds es A.in1 xs ys hu' r1 r2)).1
theorem reps_at (I:Inv X pins σ H s):∀ (ds es:List D) (A:Around) (xs ys:List V),A.units+deps ds+deps es<cLine->Reps X.K H ds xs->Reps X.K H es ys ->
  ∀ its js,Vals xs its->Vals ys js->∀ j u v,its[j]?=some u->js[j]?=some v->SeqAt.EqAt A s u v (NJ ds es j)
 | [],es,A,xs,ys,hu,h1,h2,its,js,q1,q2,j,u,v,e1,e2=>by
  unfold Reps at h1;subst h1;cases q1;simp at e1
 | d::ds,[],A,xs,ys,hu,h1,h2,its,js,q1,q2,j,u,v,e1,e2=>by
  unfold Reps at h2;subst h2;cases q2;simp at e2
 | d::ds,e::es,A,xs,ys,hu,h1,h2,its,js,q1,q2,j,u,v,e1,e2=>by
  unfold Reps at h1 h2;obtain⟨y,ys',rfl,k1,r1⟩:=h1;obtain⟨z,zs',rfl,k2,r2⟩:=h2;unfold deps at hu;cases q1 with
  | cons ru t1=>
   cases q2 with
   | cons rv t2=>
    cases j with
    | zero=>
     simp only [List.getElem?_cons_zero,Option.some.injEq] at e1 e2;subst e1 e2;exact JW I d e A y z _ _ (by lia) k1 k2 ru rv
    | succ j=>
     simp only [List.getElem?_cons_succ] at e1 e2;exact reps_at I ds es A ys' zs' (by lia) r1 r2 _ _ t1 t2 j u v e1 e2
end
end
section
variable {X:Cx}
def ME (K:zAa) (neg:Bool):R2:=fun x y H Q=>∃ t ds es,Wg K H (.seq t ds) x/\Wg K H (.seq t es) y/\deps ds+deps es<=40/\Q (.bl (if neg then !eqDs ds es else eqDs ds es)) H
theorem OB {X:Cx} (neg:Bool) (hu:X.A.units+64<cLine):Lh X (compareOp (if neg then .NotEq else .Eq)) (ME X.K neg):=by
 intro pins s σ H x y v u Q I rx ry h;obtain⟨t,ds,es,h1,h2,hd,q⟩:=h;unfold Wg at h1 h2;obtain⟨a,xs,rfl,t1,l1,r1⟩:=h1;obtain⟨b,ys,rfl,t2,l2,r2⟩:=h2;cases rx;cases ry;have hu':X.A.in1.units+deps ds+deps es<cLine:=by rw[Around.in1_units]; lia
 have hu0:X.A.units<cLine:=by lia
 have z:SeqAt.RcAt X.A s (.ref a) (.ref b) (eqDs ds es)/\SeqAt.RcNeAt X.A s (.ref a) (.ref b) (!eqDs ds es):=by
  cases t with
  | true=>exact X0 I hu0 (t1 rfl) (t2 rfl) r1 r2 (reps_at I ds es X.A.in1 xs ys hu' r1 r2)
  | false=>exact G0 I hu0 (l1 rfl) (l2 rfl) r1 r2 (reps_at I ds es X.A.in1 xs ys hu' r1 r2)
 cases neg with
 | true=>exact z.2 X.prog X.w _ _ ⟨.bl (!eqDs ds es),H,I,rfl,q⟩
 | false=>exact z.1 X.prog X.w _ _ ⟨.bl (eqDs ds es),H,I,rfl,q⟩
theorem HE {k:Nat} {A:Around} (hr:Room k A):A.units+64<cLine:=hr.units
theorem Dd {K:zAa} (h:X.K=K):LM X (MP K):=h▸Bn
end
structure EA (K:zAa) (B:Addr) (m:Str) (f:Addr):Prop where
 ga:zCq K (.ref B) "__getattribute__" = some (some (.builtin "type.__getattribute__"))
 rd:PySem.W.readsIn K B (.type "type")=true
 fc:PySem.W.findCls K (.ref B) (.type "type") m=some (.val (.ref f))
 kp:zAQ K (.ref f)=true
section
variable {X:Cx} {k:Nat} {m x:Str} {ps:List Str} {sp:Sp} {e:Expr} {es:List Expr} {p apos pos:Pos} {t:TA} {W:St->XK}
theorem D3 {A:Around} {E:Value->Shared->Prop} {pins:List (Addr×Obj)} {σ:St} {H:Hp} {s:Shared} {B g:Addr} {pl:Sem Bool} {Q:Value×List Value->Shared->Prop} (I:Inv X pins σ H s) (Z:EA X.K B m g) (h:Q (.ref g,[]) { s with toks:=s.toks+1 }) :
  wpAny (model X.prog X.w) A (getMethod (.ref B) m pl) Q E s:=PySem.W.method_cls I.kIn Z.ga (PySem.W.cls_value I.kIn Z.rd Z.fc rfl h)
structure DQ (P:Program) (w:World) (K:zAa) (mg:Str->Option Value) (base:Heap) (k:Nat) (x m:Str) (ps:List Str) (sp:Sp):Prop where
 ex:∃ B f fd,FnOk P w K mg base Da k f fd ps sp/\Binds K fd ps []/\EA K B m f/\mg x=some (.ref B)
theorem Sg {pl:Sem Bool} (C:DQ X.prog X.w X.K X.mg X.base k x m ps sp) (hr:Room k X.A) (hg:Gl X x) (ha:PA X (e::es) t) (hdb:(x==("__debug__" : Str))=false:=by decide)
  (hst:starEach (e::es) X.env=(false,eval e X.env)::starEach es X.env:=by rfl) (hpl:(backTo pos (starEach es X.env)).any (·.1)=false:=by rfl)
  (ht:eval (.Call (.Attribute (.Name x p) m apos) (e::es) [] pos) X.env=(do
   let ov <- eval (.Name x p) X.env
   standAt apos.atName
   let (f,first) <- holding [ov] (getMethod ov m pl)
   callWith pos f first (backTo pos (starEach (e::es) X.env)) (backToKw pos (keywordEach [] X.env))):=by rfl) :
  PE X (.Call (.Attribute (.Name x p) m apos) (e::es) [] pos) (V7 sp [] E0 t):=by
 intro pins s σ H Q I h;obtain⟨B,f,fd,F,b,Z,hm⟩:=C.ex;refine zBU (pl:=pl) (Hc I hg hm ?_ hdb) ht;refine D3 I Z ?_;have I':=I.tok (s.toks+1);refine zBC (first:=[]) (h₀ := X.base) I.ok.mod.kin Z.kp (Db (ha pos pins _ σ H _ I' h) fun us s2 ⟨vs,H2,I2,r,q2⟩=>⟨I2.kIn,?_⟩) hst hpl;exact Zn (us:=us) (vs:=vs) F hr b .nil Xe I2 r q2
def JU (Fam:Addr->Prop) (m:Str) (sp:Addr->Sp) (ta:TE) (t:TA):TE:=fun σ H Q=>ta σ H fun x H1=>∃ a C dx fs,x = .ref a/\H1 a=some (.ins C dx fs)/\Fam C/\fs.lookup m=none/\t σ H1 fun vs H2=>sp C (.ref a::vs) H2 Q E0
structure Pb (P:Program) (w:World) (K:zAa) (mg:Str->Option Value) (base:Heap) (k:Nat) (Fam:Addr->Prop) (m:Str) (ps:List Str) (sp:Addr->Sp):Prop where
 ex:∀ C,Fam C->Hi P w K mg base k C m ps (sp C)
theorem Fp {Fam:Addr->Prop} {spC:Addr->Sp} {o:Expr} {ta:TE} {pl:Sem Bool} (M:Pb X.prog X.w X.K X.mg X.base k Fam m ps spC) (hr:Room k X.A) (he:PE X o ta) (ha:PA X (e::es) t)
  (hst:starEach (e::es) X.env=(false,eval e X.env)::starEach es X.env:=by rfl) (hpl:(backTo pos (starEach es X.env)).any (·.1)=false:=by rfl)
  (ht:eval (.Call (.Attribute o m apos) (e::es) [] pos) X.env=(do
   let ov <- eval o X.env
   standAt apos.atName
   let (f,first) <- holding [ov] (getMethod ov m pl)
   callWith pos f first (backTo pos (starEach (e::es) X.env)) (backToKw pos (keywordEach [] X.env))):=by rfl) :
  PE X (.Call (.Attribute o m apos) (e::es) [] pos) (JU Fam m spC ta t):=by
 intro pins s σ H Q I h;refine zBU (pl:=pl) (Db (he pins s σ H _ I h) fun u s1 ⟨x,H1,I1,rx,a,C,dx,fs,ex,ea,hF,l,q⟩=>?_) ht;subst ex;obtain rfl:u=Value.ref a:=rx;obtain⟨f,fd,F,b,hm⟩:=(M.ex C hF).ex;refine Mb I1 ea (M.ex C hF).cl hm l ?_;refine zBC (first:=[.ref a]) (h₀ := X.base) I.ok.mod.kin hm.kp (Db (ha pos pins s1 σ H1 _ I1 q) fun us s2 ⟨vs,H2,I2,r,q2⟩=>⟨I2.kIn,?_⟩) hst hpl;exact Zn (us:=.ref a::us) (vs:=.ref a::vs) F hr b .nil Xe I2 (.cons rfl r) (by rw[zAU]; exact q2)
end
def NE (K:zAa) (mg:Str->Option Value) (x:Str) (xs:List V):Prop:=∃ a,mg x=some (.ref a)/\∀ H,SqT K H a xs
theorem GP {X:Cx} {x:Str} {xs:List V} {pos:Pos} (h:NE X.K X.mg x xs) (hg:Gl X x) (hd:(x==("__debug__" : Str))=false:=by decide):PE X (.Name x pos) (fun _ H Q=>∀ a,SqT X.K H a xs->Q (.ref a) H):=by
 obtain⟨a,e,hs⟩:=h;exact fun _ _ _ H _ I q=>Hc I hg e ⟨.ref a,H,I,rfl,q a (hs H)⟩ hd
section
variable {X:Cx}
end
structure OD (K:zAa) (mg:Str->Option Value) (x:Str) (C:Addr):Prop where
 makes:zCk K C=true
 init:zAc K (.ref C) "__init__" = some (some (.builtin "object.__init__"))
 kp:zAQ K (.ref C)=true
 at_:mg x=some (.ref C)
def PD (C:Addr):TE:=fun _ H Q=>∀ y dx,H y=none->H dx=none->dx≠y->Q (.ref y) (upd (upd H dx (.own y)) y (.ins C dx []))
theorem GU {X:Cx} {x:Str} {C:Addr} {p pos:Pos} (M:OD X.K X.mg x C) (hg:Gl X x) (hdb:(x==("__debug__" : Str))=false:=by decide):PE X (.Call (.Name x p) [] [] pos) (PD C):=by
 intro pins s σ H Q I h;refine wpAny_Call_Name_kw (Hc I hg M.at_ ?_ hdb);refine PySem.W.callWith_K0 I.kIn M.kp (wpAny_call (BB I.kIn M.makes M.init (fun self=>PySem.W.Looks.of_pure (PySem.W.oi_bind self)) ?_));have hq:=h (s.heap.objs.size+1) s.heap.objs.size (I.hok.fresh (zBh _)) (I.hok.fresh (zAl _)) (zAu (zBz _));have I2:=Inv.made (C:=C) I;have Y:=PySem.W.makes_of (M:=model X.prog X.w) I.kIn M.makes;have ob:((s.heap.push zAP).push (zAZ C s.heap.objs.size)).get? (s.heap.objs.size+1)=some (zAZ C s.heap.objs.size):=by
  have e:(s.heap.push zAP).objs.size=s.heap.objs.size+1:=by rw[zBy]
  rw[<- e];exact zAy _ rfl
 have t1:PySem.W.Looks (model X.prog X.w) ((s.heap.push zAP).push (zAZ C s.heap.objs.size)) (typeOf (.ref (s.heap.objs.size+1))) (.ref C):=(PySem.W.Looks.ld ob).andThen .now;have t2:PySem.W.Looks (model X.prog X.w) ((s.heap.push zAP).push (zAZ C s.heap.objs.size)) (isInstance (.ref (s.heap.objs.size+1)) (.type "object")) true:=t1.andThen (Y.top.keeps fun b o e=>zAf _ (zAf _ e));obtain⟨hh,g,d,t,os⟩:=s;refine codeAny_call_builtin PySem.W.oi_plain PySem.W.entry_oi (@PySem.W.check_slot (model X.prog X.w) _ _ _ "object.__init__" "object" "__init__" (.ref (hh.objs.size+1)) [] [] _ PySem.W.oi_kind PySem.W.oi_split t2 (PySem.W.oi_args (.ref (hh.objs.size+1))) ?_);rw[PySem.W.oi_run];exact zCv (And.intro rfl ⟨V.ref (hh.objs.size+1),_,I2,rfl,hq⟩)
end L2
namespace CRS
open PySem PySem.W PyProof.Rows
def run {α:Type} (lt:Nat->Nat->Bool) (V:Nat->Prop):KasT α->(α->Prop)->Prop
 | .ret a,Q=>Q a
 | .ask i j k,Q=>V i/\V j/\run lt V (k (lt i j)) Q
section
variable {lt:Nat->Nat->Bool} {V:Nat->Prop}
theorem Ia {α β:Type} {f:α->KasT β} {Q:β->Prop}:∀ t:KasT α,run lt V t (fun a=>run lt V (f a) Q)->run lt V (t.bind f) Q
 | .ret a,h=>h
 | .ask i j k,⟨h1,h2,h3⟩=>⟨h1,h2,Ia (k (lt i j)) h3⟩
theorem run_wp {α:Type} {cmp:Nat->Nat->(Bool->Shared->Prop)->Shared->Prop} {s:Shared} (hc:∀ i j (C:Bool->Shared->Prop),V i->V j->C (lt i j) s->cmp i j C s) {Q:α->Prop} {G:α->Shared->Prop} (hq:∀ a,Q a->G a s) :
  ∀ t:KasT α,run lt V t Q->t.kasWp cmp G s
 | .ret a,h=>hq a h
 | .ask i j k,⟨h1,h2,h3⟩=>hc i j _ h1 h2 (run_wp hc hq (k (lt i j)) h3)
theorem Ey {α:Type} {c:Prop} {inst:Decidable c} {t u:KasT α} {Q:α->Prop} (h1:c->run lt V t Q) (h2:¬ c->run lt V u Q):run lt V (@ite _ c inst t u) Q:=by
 by_cases h:c
 ·rw[if_pos h]; exact h1 h
 ·rw[if_neg h]; exact h2 h
end
section
variable {O:KeyOrd} {key:Nat->O.α} {N:Nat}
abbrev ltK (key:Nat->O.α):Nat->Nat->Bool:=fun i j=>O.blt (key i) (key j)
def kk (key:Nat->O.α) (p:Array Nat) (i:Nat):O.α:=key (p.getD i 0)
def Pm (N:Nat) (p:Array Nat):Prop:=p.Perm (zAL N).toArray
def Up (key:Nat->O.α) (p:Array Nat) (m:Nat):Prop:=∀ i j,i<=j->j<m->O.kle (kk key p i) (kk key p j)
def Dn (key:Nat->O.α) (p:Array Nat) (m:Nat):Prop:=∀ i j,i<=j->j<m->O.kle (kk key p j) (kk key p i)
theorem Pm.size {p:Array Nat} (h:Pm N p):p.size=N:=by rw[h.size_eq]; simp
set_option tactic.hygienic true in
theorem Pm.lt {p:Array Nat} (h:Pm N p) (hN:0<N) (i:Nat):p.getD i 0<N:=by
 unfold zCc
 split
 ·rename_i hi
  have m:p[i]∈p.toList:=by simp
  have m2:=(zCh.mp h).mem_iff.mp m
  simpa using m2
 ·exact hN
theorem Pm.rev {p:Array Nat} (h:Pm N p) (i j:Nat):Pm N (kas_rev p i j):=(mirror_perm p i j _).trans h
theorem Pm.bub {p:Array Nat} (h:Pm N p) (i j:Nat):Pm N (bubble p i j):=(bubble_perm p i j).trans h
theorem Nq {p q:Array Nat} {i j:Nat} (h:p[i]?=q[j]?):p.getD i 0=q.getD j 0:=by
 have e:∀ (r:Array Nat) (k:Nat),r.getD k 0=(r[k]?).getD 0:=fun r k=>by
  by_cases hk:k<r.size <;> simp [zCc,hk]
 rw[e,e,h]
theorem O3 {p:Array Nat} {i j:Nat} (hj:j<=p.size) (k:Nat):kk key (kas_rev p i j) k=if i<=k/\k<j then kk key p (i+j-1-k) else kk key p k:=by
 have e:=getElem?_mirror_all (xs:=p) (i:=i) hj k;unfold kk kas_rev;by_cases c:i<=k/\k<j
 ·rw[if_pos c] at e ⊢; rw[Nq e]
 ·rw[if_neg c] at e ⊢; rw[Nq e]
theorem JJ {p:Array Nat} {b d:Nat} (hs:b<p.size) (hd:d<=b) (k:Nat):kk key (bubble p b d) k=if k=b-d then kk key p b else if b-d<k/\k<=b then kk key p (k-1) else kk key p k:=by
 have e:=getElem?_bubble hs d hd k;unfold kk;by_cases c:k=b-d
 ·rw[if_pos c] at e ⊢; rw[Nq e]
 ·rw[if_neg c] at e ⊢
  by_cases c2:b-d<k/\k<=b
  ·rw[if_pos c2] at e ⊢; rw[Nq e]
  ·rw[if_neg c2] at e ⊢; rw[Nq e]
theorem Xs {p:Array Nat} {i j:Nat} (hj:j<=p.size) (h:∀ k,i<=k->k<j->kk key p k=kk key p (j-1)) (k:Nat):kk key (kas_rev p i j) k=kk key p k:=by
 rw[O3 hj];by_cases c:i<=k/\k<j
 ·rw[if_pos c,h _ (by lia) (by lia),h k c.1 c.2]
 ·rw[if_neg c]
theorem Up.more {p:Array Nat} {n:Nat} (h:Up key p n) (e:O.kle (kk key p (n-1)) (kk key p n)):Up key p (n+1):=fun i j hij hj=>by
 rcases Nat.lt_or_ge j n with z | z
 ·exact h i j hij z
 ·obtain rfl:j=n:=by lia
  rcases Nat.eq_or_lt_of_le hij with y | y
  ·rw[y]; exact KeyOrd.kle_refl _
  ·exact KeyOrd.kle_trans (h i (j-1) (by lia) (by lia)) e
theorem Dn.more {p:Array Nat} {n:Nat} (h:Dn key p n) (e:O.kle (kk key p n) (kk key p (n-1))):Dn key p (n+1):=fun i j hij hj=>by
 rcases Nat.lt_or_ge j n with z | z
 ·exact h i j hij z
 ·obtain rfl:j=n:=by lia
  rcases Nat.eq_or_lt_of_le hij with y | y
  ·rw[y]; exact KeyOrd.kle_refl _
  ·exact KeyOrd.kle_trans e (h i (j-1) (by lia) (by lia))
theorem Dn.of {p q:Array Nat} {n:Nat} (h:Dn key p n) (e:∀ k,kk key q k=kk key p k):Dn key q n:=fun i j a b=>by rw[e,e]; exact h i j a b
variable {β:Type}
theorem Zu {p:Array Nat} (hp:Pm N p) (hN:0<N) {Q:Nat->Prop}:∀ (f n:Nat),Up key p n->(∀ m,n<=m->m<=n+f->Up key p m->(m=n+f\/O.klt (kk key p m) (kk key p (m-1)))->Q m)->run (ltK key) (fun i=>i<N) (kas_asc p f n) Q
 | 0,n,h,q=>q n (zAl _) (zAl _) h (.inl rfl)
 | f+1,n,h,q=>by
  refine⟨hp.lt hN _,hp.lt hN _,?_⟩;refine Ey (fun c=>?_) (fun c=>?_)
  ·exact q n (zAl _) (by lia) h (.inr c)
  ·exact Zu hp hN f (n+1) (h.more (KeyOrd.kle_of_not_klt c)) fun m a b u v=>q m (by lia) (by lia) u (v.imp (fun z=>by lia) id)
def Tl (key:Nat->O.α) (p:Array Nat) (n q:Nat):Prop:=q+1<=n/\∀ i,n-(q+1)<=i->i<n->kk key p i=kk key p (n-1)
theorem Tl.one {p:Array Nat} {n:Nat}:Tl key p (n+1) 0:=⟨by lia,fun i a b=>by rw[show i=n+1-1 by lia]⟩
theorem Nu (hN:0<N) {Q:Array Nat×Nat×Nat->Prop}:∀ (f:Nat) (p:Array Nat) (n q:Nat),Pm N p->n+f<=N->Dn key p n->Tl key p n q->(∀ p' m q',Pm N p'->n<=m->m<=n+f->Dn key p' m->Tl key p' m q'->Q (p',m,q'))->run (ltK key) (fun i=>i<N) (kas_desc f p n q) Q
 | 0,p,n,q,hp,_,d,t,k=>k p n q hp (zAl _) (zAl _) d t
 | f+1,p,n,q,hp,hf,d,t,k=>by
  have sz:=hp.size;refine⟨hp.lt hN _,hp.lt hN _,?_⟩;refine Ey (fun c=>?_) (fun c=>?_)
  ·have d1:=d.more (KeyOrd.kle_of_klt c)
   refine Ey (fun _=>?_) (fun _=>?_)
   ·have like:∀ k,kk key (kas_rev p (n-(q+1)) n) k=kk key p k:=Xs (by lia) t.2
    exact Nu hN f _ (n+1) 0 (hp.rev _ _) (by lia) (d1.of like) .one fun p' m q' a b e=>k p' m q' a (by lia) (by lia)
   ·exact Nu hN f _ (n+1) 0 hp (by lia) d1 .one fun p' m q' a b e=>k p' m q' a (by lia) (by lia)
  ·refine⟨hp.lt hN _,hp.lt hN _,?_⟩
   refine Ey (fun c2=>?_) (fun c2=>?_)
   ·exact k p n q hp (zAl _) (by lia) d t
   ·have e:kk key p n=kk key p (n-1):=KeyOrd.kle_antisymm (KeyOrd.kle_of_not_klt c2) (KeyOrd.kle_of_not_klt c)
    refine Nu hN f p (n+1) (q+1) hp (by lia) (d.more (by rw[e]; exact KeyOrd.kle_refl _)) ⟨by have:=t.1; lia,fun i a b=>?_⟩ fun p' m q' a b e=>k p' m q' a (by lia) (by lia);rw[show n+1-1=n by lia];rcases Nat.lt_or_ge i n with z | z
    ·rw[e]; exact t.2 i (by lia) z
    ·rw[show i=n by lia]
theorem B3 {p:Array Nat} {n m:Nat} (hN:0<N) (hp:Pm N p) (hm:m<=N) (hn:n<=m) (d:Dn key p n) {Q:Nat×Array Nat->Prop} (q:∀ r p',Pm N p'->n<=r->r<=m->Up key p' r->Q (r,p')):run (ltK key) (fun i=>i<N) (kas_tail3 n m p) Q:=by
 have sz:=hp.size;refine Ia _ (Zu (hp.rev 0 n) hN (m-n) n (fun i j a b=>?_) fun r a b u _=>q r _ (hp.rev 0 n) a (by lia) u);rw[O3 (by lia),O3 (by lia),if_pos ⟨by lia,by lia⟩,if_pos ⟨by lia,by lia⟩];exact d _ _ (by lia) (by lia)
theorem B4 {p:Array Nat} {n m:Nat} (hN:0<N) (hp:Pm N p) (hm:m<=N) (hn:n+1<=m) (d:Dn key p (n+1)) {Q:Nat×Array Nat->Prop} (q:∀ r p',Pm N p'->n<=r->r<=m->Up key p' r->Q (r,p')):run (ltK key) (fun i=>i<N) (kas_descPart n m p) Q:=by
 refine Ia _ (Nu hN (m-(n+1)) p (n+1) 0 hp (by lia) d .one fun p' r c hp' a b d' t=>?_);have sz:=hp'.size;refine Ey (fun _=>?_) (fun _=>?_)
 ·have like:∀ k,kk key (kas_rev p' (r-(c+1)) r) k=kk key p' k:=Xs (by lia) t.2
  exact B3 hN (hp'.rev _ _) hm (by lia) (d'.of like) fun x y z u v=>q x y z (by lia) v
 ·exact B3 hN hp' hm (by lia) d' fun x y z u v=>q x y z (by lia) v
theorem Y5 {p:Array Nat} {m:Nat} (hN:0<N) (hp:Pm N p) (hm:m<=N) (h1:1<=m) {Q:Nat×Array Nat->Prop} (q:∀ r p',Pm N p'->1<=r->r<=m->Up key p' r->Q (r,p')):run (ltK key) (fun i=>i<N) (kas_count m p) Q:=by
 have sz:=hp.size;refine Ia _ (Zu hp hN (m-1) 1 (fun i j a b=>?_) fun n a b u v=>?_)
 ·rw[show i=j by lia]; exact KeyOrd.kle_refl _
 refine Ey (fun c=>?_) (fun c=>?_)
 ·exact q n p hp a (by lia) u
 have c':n≠m:=fun e=>c (by rw[e]; exact beq_self_eq_true _);have fall:O.klt (kk key p n) (kk key p (n-1)):=v.resolve_left (by lia);refine Ey (fun g=>?_) (fun g=>?_)
 ·refine⟨hp.lt hN _,hp.lt hN _,?_⟩
  refine Ey (fun r=>?_) (fun r=>?_)
  ·exact q n p hp a (by lia) u
  have alike:∀ k,0<=k->k<n->kk key p k=kk key p (n-1):=fun k _ hk=>
   KeyOrd.kle_antisymm (u k (n-1) (by lia) (by lia)) (KeyOrd.kle_trans (KeyOrd.kle_of_not_klt r) (u 0 k (by lia) hk))
  have like:∀ k,kk key (kas_rev p 0 n) k=kk key p k:=Xs (by lia) alike;refine B4 hN (hp.rev 0 n) hm (by lia) (Dn.of (p:=p) (Dn.more (fun i j x y=>?_) (KeyOrd.kle_of_klt fall)) like) fun x y z w=>q x y z (by lia);rw[alike i (by lia) (by lia),alike j (by lia) y];exact KeyOrd.kle_refl _
 ·refine B4 hN hp hm (by lia) (Dn.more (fun i j x y=>?_) (KeyOrd.kle_of_klt fall)) fun x y z w=>q x y z (by lia)
  rw[show i=j by lia];exact KeyOrd.kle_refl _
theorem Pt {p:Array Nat} {k:Nat} (hN:0<N) (hp:Pm N p) (u:Up key p k) {Q:Nat->Prop} (q:∀ l,l<=k->(∀ i,i<l->O.kle (kk key p i) (kk key p k))->(∀ i,l<=i->i<k->O.klt (kk key p k) (kk key p i))->Q l) :
  ∀ (f l r:Nat),l<=r->r<=k->r-l<=f->(∀ i,i<l->O.kle (kk key p i) (kk key p k))->(∀ i,r<=i->i<k->O.klt (kk key p k) (kk key p i))->run (ltK key) (fun i=>i<N) (kas_place p k f l r) Q
 | 0,l,r,a,b,c,x,y=>by
  obtain rfl:l=r:=by lia
  exact q l b x y
 | f+1,l,r,a,b,c,x,y=>by
  refine Ey (fun g=>?_) (fun g=>?_)
  ·obtain rfl:l=r:=by lia
   exact q l b x y
  refine⟨hp.lt hN _,hp.lt hN _,?_⟩;refine Ey (fun z=>?_) (fun z=>?_)
  ·exact Pt hN hp u q f l ((l+r)/2) (by lia) (by lia) (by lia) x fun i v w=>KeyOrd.klt_of_klt_of_kle z (u _ i v w)
  ·exact Pt hN hp u q f ((l+r)/2+1) r (by lia) b (by lia) (fun i v=>KeyOrd.kle_trans (u i ((l+r)/2) (by lia) (by lia)) (KeyOrd.kle_of_not_klt z)) y
theorem W3 (hN:0<N) {Q:Array Nat->Prop}:∀ (f:Nat) (p:Array Nat) (k:Nat),Pm N p->k+f<=N->Up key p k->(∀ p',Pm N p'->Up key p' (k+f)->Q p')->run (ltK key) (fun i=>i<N) (kas_bin f p k) Q
 | 0,p,k,hp,_,u,q=>q p hp u
 | f+1,p,k,hp,hk,u,q=>by
  have sz:=hp.size;refine Ia _ (Pt hN hp u (fun l a lo hi=>?_) k 0 k (by lia) (by lia) (by lia) (fun i z=>by lia) fun i z w=>by lia);refine W3 hN f _ (k+1) (hp.bub _ _) (by lia) (fun i j x y=>?_) fun p' a b=>q p' a (by rw[show k+(f+1)=k+1+f by lia]; exact b);have bb:∀ i,kk key (bubble p k (k-l)) i=if i=l then kk key p k else if l<i/\i<=k then kk key p (i-1) else kk key p i:=fun i=>by
   rw[JJ (by lia) (by lia),show k-(k-l)=l by lia]
  rw[bb,bb];rcases zBF i l with c | c | c
  ·rw[if_neg (by lia),if_neg (by lia)]
   rcases zBF j l with e | e | e
   ·rw[if_neg (by lia),if_neg (by lia)]; exact u i j x (by lia)
   ·rw[if_pos e]; exact lo i c
   ·rw[if_neg (by lia),if_pos (by lia)]; exact u i (j-1) (by lia) (by lia)
  ·rw[if_pos c]
   rcases Nat.eq_or_lt_of_le x with e | e
   ·rw[if_pos (by lia)]; exact KeyOrd.kle_refl _
   ·rw[if_neg (by lia),if_pos (by lia)]; exact KeyOrd.kle_of_klt (hi (j-1) (by lia) (by lia))
  ·rw[if_neg (by lia),if_pos (by lia),if_neg (by lia),if_pos (by lia)]
   exact u (i-1) (j-1) (by lia) (by lia)
theorem run_sort (hN:0<N) {Q:Array Nat->Prop} (q:∀ p,Pm N p->Up key p N->Q p):run (ltK key) (fun i=>i<N) (kas_sort N) Q:=by
 refine Ia _ (Y5 hN (show Pm N _ from Array.Perm.refl _) (zAl _) hN fun r p hp a b u=>?_);refine Ey (fun c=>?_) (fun c=>?_)
 ·have c':r<N:=c
  show run _ _ (kas_bin (N-max r 1) p (max r 1)) Q;have e:max r 1=r:=by lia
  rw[e];exact W3 hN _ p r hp (by lia) u fun p' x y=>q p' x (by rw[show r+(N-r)=N by lia] at y; exact y)
 ·have c':¬ r<N:=c
  obtain rfl:r=N:=by lia
  exact q p hp u
end
end CRS
namespace L2
open PySem PySem.Spec PyProof.Rows PySem.W
theorem Mo:∀ a:List Int,HT.lexLt a a=false
 | []=>rfl
 | x::xs=>by unfold HT.lexLt; rw[if_pos rfl]; exact Mo xs
theorem Xc:∀ a b c:List Int,HT.lexLt a b=true->HT.lexLt b c=true->HT.lexLt a c=true
 | [],[],_,h,_=>nomatch h
 | [],_::_,[],_,h=>nomatch h
 | [],_::_,_::_,_,_=>rfl
 | _::_,[],_,h,_=>nomatch h
 | _::_,_::_,[],_,h=>nomatch h
 | x::xs,y::ys,z::zs,h1,h2=>by
  unfold HT.lexLt at h1 h2 ⊢;by_cases e1:x=y
  ·by_cases e2:y=z
   ·rw[if_pos e1] at h1; rw[if_pos e2] at h2; rw[if_pos (e1.trans e2)]; exact Xc xs ys zs h1 h2
   ·rw[if_neg e2] at h2; rw[if_neg (by rw[e1]; exact e2),e1]; exact h2
  ·rw[if_neg e1] at h1
   have l1:=of_decide_eq_true h1;by_cases e2:y=z
   ·rw[if_neg (by rw[<- e2]; exact e1),<- e2]; exact h1
   ·rw[if_neg e2] at h2
    have l2:=of_decide_eq_true h2;rw[if_neg (by omega)];exact decide_eq_true (by omega)
theorem R6:∀ a b c:List Int,HT.lexLt a c=true->HT.lexLt a b=true\/HT.lexLt b c=true
 | [],[],_,h=>.inr h
 | [],_::_,_,_=>.inl rfl
 | _::_,_,[],h=>nomatch h
 | _::_,[],_::_,_=>.inr rfl
 | x::xs,y::ys,z::zs,h=>by
  unfold HT.lexLt at h ⊢;by_cases e1:x=y
  ·by_cases e2:y=z
   ·rw[if_pos (e1.trans e2)] at h; rw[if_pos e1,if_pos e2]; exact R6 xs ys zs h
   ·rw[if_neg (by rw[e1]; exact e2)] at h; rw[if_neg e2]; exact .inr (by rw[<- e1]; exact h)
  ·rw[if_neg e1]
   by_cases e2:y=z
   ·rw[if_neg (by rw[<- e2]; exact e1)] at h; exact .inl (by rw[e2]; exact h)
   ·rw[if_neg e2]
    by_cases l:x<y
    ·exact .inl (decide_eq_true l)
    ·right
     refine decide_eq_true ?_;by_cases e3:x=z
     ·omega
     ·rw[if_neg e3] at h
      have:=of_decide_eq_true h;omega
theorem Wa:∀ a b:List Int,HT.lexLt a b=false->HT.lexLt b a=false->a=b
 | [],[],_,_=>rfl
 | [],_::_,h,_=>nomatch h
 | _::_,[],_,h=>nomatch h
 | x::xs,y::ys,h1,h2=>by
  unfold HT.lexLt at h1 h2;by_cases e1:x=y
  ·rw[if_pos e1] at h1; rw[if_pos e1.symm] at h2; rw[e1,Wa xs ys h1 h2]
  ·rw[if_neg e1] at h1; rw[if_neg (Ne.symm e1)] at h2
   have l1:=of_decide_eq_false h1;have l2:=of_decide_eq_false h2;omega
def LexO:KeyOrd:=⟨List Int,HT.lexLt,Mo,Xc,R6,Wa⟩
section
variable {prog:Program} {w:World} {A:Around} {E:Value->Shared->Prop} {s:Shared}
def HL (prog:Program) (w:World) (A:Around) (vs:List Value) (O:KeyOrd) (key:Nat->O.α) (s:Shared):Prop:=
 ∃ κ:SortKind,(∀ (Q:SortKind->Shared->Prop) (E:Value->Shared->Prop),Q κ s->wpAny (model prog w) A (keyKind' vs.toArray) Q E s) /\
  ∀ i j,i<vs.length->j<vs.length->∀ C:Bool->Shared->Prop,C (O.blt (key i) (key j)) s->wpAny (model prog w) A (keyLt' κ (vs.getD i Value.none) (vs.getD j Value.none)) C (fun _ _=>False) s
def Og (vs:List Value) (p:Array Nat):List Value:=p.toList.map fun i=>vs.getD i Value.none
theorem B2 {n:Nat} {vs:List Value} {p:Array Nat} (h:CRS.Pm n p):(Og vs p).length=n:=by
 unfold Og;rw[zAb,zAC,h.size]
theorem HZ:∀ {vs:List Value},vs.length<2->((vs.toArray.zip vs.toArray).map (·.2))=(Og vs (zAL vs.length).toArray).toArray
 | [],_=>by
  apply Array.toList_inj.mp;simp [Og]
 | [v],_=>by
  apply Array.toList_inj.mp;simp [Og]
 | _::_::_,h=>absurd h (by simp)
theorem GK {O:KeyOrd} {key:Nat->O.α} {a:Addr} {vs:List Value} {n:Nat} {P:PySem.Fin->Shared->Prop} (ho:s.heap.get? a=some (seqObj "list" vs.toArray n)) (h64:vs.length<64)
  (ask:∀ h':Heap,(∀ b o,b≠a->s.heap.get? b=some o->h'.get? b=some o)->2<=vs.length->HL prog w A vs O key { s with heap:=h' })
  (h:∀ p,CRS.Pm vs.length p->CRS.Up key p vs.length->P (.done (.ret .none)) { s with heap:=sortedHeap s.heap a vs (Og vs p).toArray }) :
  wpAny (model prog w) A (Builtin.«list.sort» ⟨[.ref a],[]⟩) P E s:=by
 have lt:a<s.heap.objs.size:=zAq ho;have line:∀ k:Nat,k<64->k<=sizeLine:=fun k hk=>by rw[zCw]; lia
 rw[list_sort_plain];refine zCu (listItems_at ho rfl (zCu (listUpdate_at ho rfl ?_ (by rw[zAh]; exact line _ h64) (zAA _))));obtain⟨e1,ho1⟩:∃ e1,(s.heap.update a (Obj.mapSeq fun _=>(#[]:Array Value))).get? a=some (seqObj "list" #[] e1):=⟨_,get?_update_seq ho fun _ => #[]⟩;refine zCu (seqEpoch_at ho1 rfl (zCu (wpAny_newTuple (zCu (wpAny_newList (wpAny_holding ?_) (zAA _))) (by rw[zAC,zAh]; exact line _ h64))));have sb:=zBg.update s.heap a (Obj.mapSeq fun _=>(#[]:Array Value));have old:∀ b o,b≠a->s.heap.get? b=some o->(((s.heap.update a (Obj.mapSeq fun _=>(#[]:Array Value))).push (seqObj "tuple" vs.toArray 0)).push (seqObj "list" #[] 0)).get? b=some o:=fun b o nb e=>
  zAf _ (zAf _ ((sb.2 b nb).trans e))
 have ho3:(((s.heap.update a (Obj.mapSeq fun _=>(#[]:Array Value))).push (seqObj "tuple" vs.toArray 0)).push (seqObj "list" #[] 0)).get? a=some (seqObj "list" #[] e1):=zAf _ (zAf _ ho1);show wpAny (model prog w) A _ P E { s with heap:=((s.heap.update a (Obj.mapSeq fun _=>(#[]:Array Value))).push (seqObj "tuple" vs.toArray 0)).push (seqObj "list" #[] 0) }
 dsimp only
 have sz:vs.toArray.size=vs.length:=zAh ..;by_cases few:vs.toArray.size<2
 ·rw[if_pos few,if_pos few]
  refine zCu (zCv ?_);rw[StateT.run_pure];refine zCu (zCv ?_);have eo:(arrOf (SortSt.mk' general' (vs.toArray.zip vs.toArray) #[] 7 none)).map (·.2)=(Og vs (zAL vs.length).toArray).toArray:=HZ (by lia);show wpAny (model prog w) A (do
   let x <- seqEpoch a
   let _ <- Builtin.List.listUpdate (.ref a) fun _=>(arrOf (SortSt.mk' general' (vs.toArray.zip vs.toArray) #[] 7 none)).map (·.2)
   _) P E _
  rw[eo];refine zCu (seqEpoch_at ho3 rfl (zCu (listUpdate_at ho3 rfl ?_ (zAA _) (by rw[zAh,B2 (n:=vs.length) (Array.Perm.refl _)]; have:=line _ h64; lia))));simp only [bne_self_eq_false,zBN,if_false];refine zCv (h _ (Array.Perm.refl _) fun i j hij hj=>?_);rw[show i=j by lia];exact KeyOrd.kle_refl _
 ·rw[if_neg few,if_neg few]
  have two:2<=vs.length:=by lia
  obtain⟨κ,kind,less⟩:=ask _ old two;refine zCu (kind _ _ ?_);have tree:(kas_sort vs.length).kasWp (kas_ask prog w A κ vs) (fun p s'=>s'={ s with heap:=((s.heap.update a (Obj.mapSeq fun _=>(#[]:Array Value))).push (seqObj "tuple" vs.toArray 0)).push (seqObj "list" #[] 0) }/\CRS.Pm vs.length p/\CRS.Up key p vs.length)
    { s with heap:=((s.heap.update a (Obj.mapSeq fun _=>(#[]:Array Value))).push (seqObj "tuple" vs.toArray 0)).push (seqObj "list" #[] 0) }:=
   CRS.run_wp (lt:=CRS.ltK key) (V:=fun i=>i<vs.length) (fun i j C hi hj hC=>less i j hi hj C hC) (fun p hp=>⟨rfl,hp⟩) _ (CRS.run_sort (by lia) fun p h1 h2=>⟨h1,h2⟩)
  refine zCu (wpAny_mono (kat_run (ks:=vs) (vs:=vs) (Q:=fun st' s'=>s'={ s with heap:=((s.heap.update a (Obj.mapSeq fun _=>(#[]:Array Value))).push (seqObj "tuple" vs.toArray 0)).push (seqObj "list" #[] 0) }/\failedOf st'=none/\∃ p,CRS.Pm vs.length p/\CRS.Up key p vs.length/\(arrOf st').map (·.2)=(Og vs p).toArray)
   rfl two h64 (fun p st' s' _ har hf ⟨es,g1,g2⟩=>⟨es,hf,p,g1,g2,kat_snds rfl har⟩) tree) ?_ fun _ _ e=>e)
  rintro ⟨⟨⟩,st'⟩ s' ⟨rfl,hf,p,hp,hu,eo⟩;show wpAny (model prog w) A (do
   let x <- seqEpoch a
   let _ <- Builtin.List.listUpdate (.ref a) fun _=>(arrOf st').map (·.2)
   _) P E _
  rw[eo];refine zCu (seqEpoch_at ho3 rfl (zCu (listUpdate_at ho3 rfl ?_ (zAA _) (by rw[zAh,B2 hp]; have:=line _ h64; lia))));rw[hf];simp only [bne_self_eq_false,zBN,if_false];exact zCv (h p hp hu)
theorem Wu {O:KeyOrd} {key:Nat->O.α} {l:Addr} {vs:List Value} {Q:Value->Shared->Prop} (hl:s.heap.IsList l vs.toArray) (h64:vs.length<64)
  (ask:∀ (A:Around) (h':Heap),(∀ b o,s.heap.get? b=some o->h'.get? b=some o)->2<=vs.length->HL prog w A vs O key { s with heap:=h' })
  (h:∀ p,CRS.Pm vs.length p->CRS.Up key p vs.length->Q (.ref (s.heap.objs.size+1)) { s with heap:=sortedAll s.heap vs (Og vs p).toArray }) :
  wpAny (model prog w) A (call (.builtin "sorted") [.ref l]) Q E s:=by
 have line:vs.length<=sizeLine:=by rw[zCw]; omega
 refine Calls.call_function_entry kind_sorted plain_sorted entry_sorted (args_sorted1 _) ?_;unfold Builtin.«sorted»;refine zCu (m:=checkCount "sorted" 1 1 _) (zCv (zCu (collect_list hl (zCu (wpAny_newList ?_ line)))));have sz:((s.heap.push (seqObj "list" #[] 0)).update s.heap.objs.size (Obj.mapSeq (· ++ vs.toArray))).objs.size=s.heap.objs.size+1:=by rw[Heap.size_update,size_push']
 have at1:(((s.heap.push (seqObj "list" #[] 0)).update s.heap.objs.size (Obj.mapSeq (· ++ vs.toArray))).push (seqObj "list" vs.toArray 0)).get? (s.heap.objs.size+1)=some (seqObj "list" vs.toArray 0):=by
  rw[<- sz];exact zAy _ rfl
 have old:∀ b o,s.heap.get? b=some o->(((s.heap.push (seqObj "list" #[] 0)).update s.heap.objs.size (Obj.mapSeq (· ++ vs.toArray))).push (seqObj "list" vs.toArray 0)).get? b=some o:=fun b o e=>
  zAf _ (((zBg.update (s.heap.push (seqObj "list" #[] 0)) s.heap.objs.size (Obj.mapSeq (· ++ vs.toArray))).2 b (zAu (zAq e))).trans (zAf _ e))
 show wpAny (model prog w) _ _ _ _ { s with heap:=((s.heap.push (seqObj "list" #[] 0)).update s.heap.objs.size (Obj.mapSeq (· ++ vs.toArray))).push (seqObj "list" vs.toArray 0) };rw[sz];refine zCu (wpAny_holding (wpAny_call_entry slot_list_sort ⟨_,at1,rfl⟩ entry_list_sort (GK (O:=O) (key:=key) at1 h64 (fun h' k two=>?_) fun p hp hu=>⟨_,rfl,?_⟩) (args_list_sort _)))
 ·exact ask _ h' (fun b o e=>k b o (zAu (zBx (zAq e))) (old b o e)) two
 ·exact zCv ⟨_,rfl,h p hp hu⟩
theorem F8 {Q:Bool->Shared->Prop}:∀ {xs ys:List Value} {ns ms:List Int} (i:Nat),IntsAre xs ns->IntsAre ys ms->ns.length=ms.length->Q (HT.lexLt ns ms) s->KatLex prog w A true false Q (xs.zip ys) i s
 | _,_,_,_,i,.nil,.nil,_,h=>kat_nil h
 | _,_,_,_,_,.nil,.cons _ _ _,e,_=>by simp at e
 | _,_,_,_,_,.cons _ _ _,.nil,e,_=>by simp at e
 | _,_,_,_,i,.cons a t r,.cons b u r',e,h=>by
  rw[List.zip_cons_cons];refine kat_cons (wpAny_eqBool_int ?_);rw[HT.lexLt_cons] at h;by_cases c:a=b
  ·rw[if_pos c] at h
   have e2:(a==b)=true:=by rw[c]; exact beq_self_eq_true b
   rw[e2];exact kat_yes (F8 (i+1) r r' (by simpa using e) h)
  ·rw[if_neg c] at h
   have e2:(a==b)=false:=by simpa using c
   rw[e2];refine kat_no ?_;cases i with
   | zero=>exact oneLt_int h
   | succ i=>exact kat_one _ _ (PyProof.Rows.lt_int h)
def TupV (h:Heap) (k:Nat):List Value->List (List Int)->Prop
 | [],[]=>True
 | v::vs,r::rs=>(∃ (t:Addr) (xs:List Value),v = .ref t/\IsTup h t xs.toArray/\IntsAre xs r/\r.length=k)/\TupV h k vs rs
 | _,_=>False
theorem TupV.keep {h h':Heap} {k:Nat} (kp:∀ b o,h.get? b=some o->h'.get? b=some o):∀ {vs:List Value} {rs:List (List Int)},TupV h k vs rs->TupV h' k vs rs
 | [],[],_=>trivial
 | [],_::_,z=>z.elim
 | _::_,[],z=>z.elim
 | v::vs,r::rs,⟨⟨t,xs,e,⟨o,ho,hc⟩,z⟩,q⟩=>⟨⟨t,xs,e,⟨o,kp _ _ ho,hc⟩,z⟩,q.keep kp⟩
theorem TupV.at {h:Heap} {k:Nat}:∀ {vs:List Value} {rs:List (List Int)} {i:Nat},TupV h k vs rs->i<vs.length->∃ (t:Addr) (xs:List Value),vs.getD i Value.none = .ref t/\IsTup h t xs.toArray/\IntsAre xs (rs.getD i [])/\(rs.getD i []).length=k
 | [],[],_,_,z=>by simp at z
 | [],_::_,_,z,_=>z.elim
 | _::_,[],_,z,_=>z.elim
 | v::vs,r::rs,0,⟨⟨t,xs,e,z⟩,q⟩,_=>⟨t,xs,e,z⟩
 | v::vs,r::rs,i+1,⟨_,q⟩,l=>q.at (i:=i) (by simpa using l)
theorem TupV.firsts {h:Heap} {k:Nat}:∀ {vs:List Value} {rs:List (List Int)},TupV h (k+1) vs rs->∃ fs:List Value,KatTups h vs fs/\fs.length=vs.length/\∀ v∈fs,∃ (n:Int) (t:Tok),v = .int n t
 | [],[],_=>⟨[],trivial,rfl,fun _ z=>nomatch z⟩
 | [],_::_,z=>z.elim
 | _::_,[],z=>z.elim
 | v::vs,r::rs,⟨⟨t,xs,e,⟨o,ho,hc,n,hd⟩,ia,l⟩,q⟩=>by
  obtain⟨fs,h1,h2,h3⟩:=q.firsts;cases ia with
  | nil=>simp at l
  | cons a u rr=>
   refine⟨.int a u::fs,⟨⟨t,o,_,n,e,ho,hc,hd,by simp⟩,h1⟩,by rw[zAg,zAg,h2],fun y hy=>?_⟩;rcases zAn.mp hy with z | z
   ·exact⟨a,u,z⟩
   ·exact h3 y z
theorem Vv {M:Model} {h:Heap} (n:Int) (t:Tok):Looks M h (typeOf (.int n t)) (.type "int"):=fun A Q E s _ q=>wpAny_of_eq rfl q
theorem AC {vs:List Value} {rs:List (List Int)} {k:Nat} (T:TupV s.heap (k+1) vs rs) (two:2<=vs.length):HL prog w A vs LexO (fun i=>rs.getD i []) s:=by
 obtain⟨fs,h1,h2,h3⟩:=T.firsts;refine⟨tuples' (Value.type "int" != Value.type "tuple"),fun Q E q=>kat_kind h1 (by lia) (fun v hv=>?_) rfl q,fun i j hi hj C hC=>?_⟩
 ·obtain⟨n,t,rfl⟩:=h3 v hv
  exact Vv n t
 ·obtain⟨t,xs,e,⟨o,ho,hc,n,hd⟩,ia,l⟩:=T.at hi
  obtain⟨t',xs',e',⟨o',ho',hc',n',hd'⟩,ia',l'⟩:=T.at hj;rw[e,e'];have ls:=ia.length;have ls':=ia'.length;have nb:(Value.type "int" != Value.type "tuple")=true:=by decide +kernel
  rw[nb];refine kat_lt ho hd ho' hd' ?_;have ef:decide (xs.toArray.size<xs'.toArray.size)=false:=decide_eq_false (by simp only [zAh]; lia);rw[ef];exact F8 0 ia ia' (l.trans l'.symm) hC
end
def TupI (K:zAa) (H:Hp) (k:Nat):List V->List (List Int)->Prop
 | [],[]=>True
 | y::ys,r::rs=>(∃ t,y = .ref t/\SqT K H t (r.map V.int)/\r.length=k)/\TupI K H k ys rs
 | _,_=>False
theorem Ta:∀ {r:List Int} {us:List Value},Vals (r.map V.int) us->IntsAre us r
 | [],_,.nil=>.nil
 | a::r,_,.cons ⟨t,e⟩ rr=>by subst e; exact .cons a t (Ta rr)
section
variable {X:Cx}
theorem TupI.vals {pins:List (Addr×Obj)} {σ:St} {H:Hp} {s:Shared} {k:Nat} (I:Inv X pins σ H s):∀ {ys:List V} {rs:List (List Int)} {us:List Value},TupI X.K H k ys rs->Vals ys us->TupV s.heap k us rs
 | [],[],_,_,.nil=>trivial
 | [],_::_,_,z,_=>z.elim
 | _::_,[],_,z,_=>z.elim
 | y::ys,r::rs,_,⟨⟨t,e,h,l⟩,q⟩,.cons rv rr=>by
  subst e;cases rv;obtain⟨its,rv',p,_⟩:=I.tuple h;exact⟨⟨t,its,rfl,p,Ta rv',l⟩,q.vals I rr⟩
theorem D4:∀ {ys:List V} {us:List Value} (i:Nat),Vals ys us->RelV (ys.getD i .non) (us.getD i Value.none)
 | _,_,_,.nil=>rfl
 | _,_,0,.cons r _=>r
 | _,_,i+1,.cons _ rr=>by
  rw[List.getD_cons_succ,List.getD_cons_succ];exact D4 i rr
theorem Rr {ys:List V} {us:List Value} (r:Vals ys us):∀ l:List Nat,Vals (l.map fun i=>ys.getD i .non) (l.map fun i=>us.getD i Value.none)
 | []=>.nil
 | i::l=>.cons (D4 i r) (Rr r l)
def JV (K:zAa):List V->Hp->VK->Prop:=fun xs H Q=>∃ a ys rs,∃ k:Nat,xs=[.ref a]/\SqL K H a ys/\ys.length<64/\TupI K H (k+1) ys rs /\
 ∀ (l:Addr) (p:Array Nat),H l=none->CRS.Pm ys.length p->CRS.Up (O:=LexO) (fun i=>rs.getD i []) p ys.length->Q (.ref l) (upd H l (.lst (p.toList.map fun i=>ys.getD i .non)))
theorem HJ:Gr X (.builtin "sorted") (JV X.K):=by
 intro pins s σ H xs us Q I r h;obtain⟨a,ys,rs,k,rfl,hq,l64,T,q⟩:=h;obtain⟨u,rfl,rx⟩:=Jm r;cases rx;obtain⟨its,rv,pl,hz⟩:=I.list hq;have hl:=rv.length;have TV:=T.vals I rv;refine Wu (O:=LexO) (key:=fun i=>rs.getD i []) pl.isList (by lia) (fun A' h' kp two=>AC (s:={ s with heap:=h' }) (TV.keep kp) two) fun p hp hu=>?_;obtain⟨e,he⟩:=sortedAll_at s.heap its (Og its p).toArray;have lp:(p.toList.map fun i=>ys.getD i .non).length<=sizeLine:=by
  rw[zAb,zAC,hp.size]
  lia
 rw[<- hl] at hp hu;exact⟨.ref (s.heap.objs.size+1),_,I.laid (t':=s.toks) (fun b o q=>sortedAll_old q) (zBh _) (show ObjOk X.prog X.w _ _ _ (.lst _) from ⟨lp,Og its p,e,Rr rv _,he⟩),rfl,q _ p (I.hok.fresh (zBh _)) hp hu⟩
def OL (K:zAa) (t:TE):TT:=fun σ H Q=>t σ H fun x H1=>∃ k,JP K x H1 k/\Q k H1
theorem FM {e:Expr} {t:TE} (h:PE X e t) (he:∀ whole,isTrue e X.env whole=(do let v <- whole; standAt e.pos; holding [v] (truthy v)):=by intro _; rfl):PT X e (OL X.K t):=by
 intro pins s σ H Q I hw;exact isTrue_plain (Db (h pins s σ H _ I hw) fun v s1 ⟨x,H1,I1,r1,q1⟩=>DZ pins s1 σ H1 x v Q I1 r1 q1) (he _)
end
end L2
namespace L2
open PySem PySem.Spec PyProof.Rows
structure FunD (K:zAa) (x qual:Str) (st:Stmt) (f:Addr) (fd:zCy):Prop where
 ex:∃ (oc:Value) (od:Option Addr) (dV kV doc pm:Value) (an:Option Addr) (cdv ct:Value) (osl:Array (Option Value)),
  fd=zAV x qual (Dk st) (De st) (Ar st) dV kV doc pm an cdv ct/\K.lookup f=some ⟨oc,od,.func fd,osl⟩/\zBm K cdv qual=true
 kp:zAQ K (.ref f)=true
section
variable {P:Program} {w:World} {K:zAa} {mg:Str->Option Value} {base:Heap}
theorem FunD.ok {x qual:Str} {st:Stmt} {f:Addr} {fd:zCy} {N ps:List Str} {k:Nat} {sp:Sp} (F:FunD K x qual st f fd) (S:Bd N ps (Ar st)) (len:∀ vs H Q E,sp vs H Q E->vs.length=ps.length)
  (hbody:∀ (cdv:Value) (A:Around) (outer:List Env) (s:Shared) (H:Hp) (vs:List V) (Q:VK) (E:XK),Room k (A.deeper (envOfC qual (Ar st) s.heap.objs.size f cdv))->sp vs H Q E ->
   ∃ t,PSs (Q0 Da P w K mg base N qual (Ar st) f cdv A outer s H E).nox (De st) t/\t { nx:=fun _ H'=>Q .non H',rt:=Q } (Nz N vs) H):FnOk P w K mg base Da (k+1) f fd ps sp:=by
 obtain⟨oc,od,dV,kV,doc,pm,an,cdv,ct,osl,e,lk,hcd⟩:=F.ex;subst e;refine IY lk hcd S len fun A outer s H vs Q E hr hsp=>?_;obtain⟨t,h,q⟩:=hbody cdv A outer s H vs Q E hr hsp;exact⟨t,h.nox,q⟩
theorem GA {x qual:Str} {st:Stmt} {f:Addr} {oc:Value} {od an:Option Addr} {osl:Array (Option Value)} {dV kV doc pm cdv ct:Value} (l:K.lookup f=some ⟨oc,od,.func (zAV x qual (Dk st) (De st) (Ar st) dV kV doc pm an cdv ct),osl⟩)
  (c:zBm K cdv qual=true) (k:zAQ K (.ref f)=true):FunD K x qual st f (zAV x qual (Dk st) (De st) (Ar st) dV kV doc pm an cdv ct):=⟨⟨oc,od,dV,kV,doc,pm,an,cdv,ct,osl,rfl,l,c⟩,k⟩
end
theorem Np {K K':zAa} {a:Addr} {xs:List V} {i1 i2:Nat} {tb:TS} {D:Qy} {σ:St} {H:Hp} (Pv:Nat->St->Hp->Prop) (h0:Pv 0 σ H) (hl:∀ i σ H,i<=xs.length->Pv i σ H->SqL K H a xs)
  (hs:∀ i x σ H t,xs[i]?=some x->Pv i σ H->H t=none->tb { D with nx:=Pv (i+1),ct:=Pv (i+1),bk:=D.nx } ((σ.set i1 (some (.int i))).set i2 (some x)) (upd H t (.tup [.int i,x]))) (hd:∀ σ H,Pv xs.length σ H->D.nx σ H) :
  ∃ W:Nat->Nat->St->Hp->Prop,(∃ m,W 0 m σ H)/\∀ i m σ H,W i m σ H ->
   ((LO K a).stop i H/\D.nx σ H)\/((LO K a).go i H/\∃ N:St->Hp->Prop,(∀ σ' H',N σ' H'->∃ m',m'<m/\W (i+1) m' σ' H')/\∀ x H',(LO K a).yld i H x H'->AZ K' 2 (Kn (Er i1) (Kn (Er i2) EE)) x σ H' fun σ2 H2=>tb { D with nx:=N,ct:=N,bk:=D.nx } σ2 H2):=by
 refine⟨fun i m σ H=>m=xs.length-i/\i<=xs.length/\Pv i σ H,⟨xs.length,by simp,zAA _,h0⟩,?_⟩;rintro i m σ H ⟨rfl,hi,p⟩;have q:=hl i σ H hi p;by_cases hlt:i<xs.length
 ·refine .inr ⟨⟨xs,xs[i],q,by simp [hlt]⟩,Pv (i+1),fun σ' H' p'=>⟨xs.length-(i+1),by omega,rfl,hlt,p'⟩,fun x H' y=>?_⟩
  obtain⟨t,z,ex,ht,hz,e3⟩:=y;subst ex e3;exact⟨t,_,rfl,SqT.of Ac,rfl,_,_,rfl,_,_,rfl,rfl,hs i z σ H t (hz xs q) p ht⟩
 ·obtain rfl:i=xs.length:=by omega
  exact .inl ⟨⟨xs,q,zAl _⟩,hd σ H p⟩
def MS (K:zAa) (a b:Addr):It:=
 ⟨fun i H=>∃ xs ys x y,SqL K H a xs/\SqL K H b ys/\xs[i]?=some x/\ys[i]?=some y,
   fun i H v H'=>∃ t x y,v = .ref t/\H t=none/\(∀ xs,SqL K H a xs->xs[i]?=some x)/\(∀ ys,SqL K H b ys->ys[i]?=some y)/\H'=upd H t (.tup [x,y]),
   fun i H=>∃ xs ys,SqL K H a xs/\SqL K H b ys/\(xs.length<=i\/ys.length<=i)⟩
structure Zp (z u o i j:Addr):Prop where
 uz:u≠z
 oz:o≠z
 iz:i≠z
 jz:j≠z
 uo:u≠o
 ui:u≠i
 uj:u≠j
 oi:o≠i
 oj:o≠j
 ij:i≠j
theorem KD (n:Nat):Zp (n+4) (n+2) (n+3) n (n+1):=
 ⟨zAu (by lia),zAu (by lia),zAu (by lia),zAu (by lia),zAu (by lia),zBs (by lia),zBs (by lia),zBs (by lia),zBs (by lia),zAu (by lia)⟩
def IL (a b z u o i j:Addr) (k:Nat) (h:Heap):Prop:=IsZip h z u o .none/\IsPair h u (.ref i) (.ref j)/\(∃ x y,IsPair h o x y)/\h.IsListIter i a k/\h.IsListIter j b k
theorem Wf {a b z u o i j:Addr} {k:Nat} {h:Heap} {xs ys:Array Value} (D:Zp z u o i j) (st:IL a b z u o i j k h) (ha:h.IsList a xs) (hb:h.IsList b ys):ZipApart z u o i j a b:=by
 obtain⟨hz,hu,⟨x,y,ho⟩,⟨oi,ei,ci,_⟩,⟨oj,ej,cj,_⟩⟩:=st;have ne:∀ {c d:Addr} {p q:Obj} {zs:Array Value},h.IsList c zs->h.get? d=some q->q.cls ≠ .type "list" -> c≠d:=fun {c d p q zs} hl hd hn e=>by
  obtain⟨p',hp,hc,_⟩:=hl;rw[e,hd] at hp;cases hp;exact hn hc
 have nz:(Value.type "zip") ≠ .type "list" := by decide +kernel
 have nt:(Value.type "tuple") ≠ .type "list" := by decide +kernel
 have ni:(Value.type "list_iterator") ≠ .type "list" := by decide +kernel
 have hci:oi.cls ≠ .type "list" := by rw[ci]; exact ni
 have hcj:oj.cls ≠ .type "list" := by rw[cj]; exact ni
 constructor <;> first
  | exact D.uz | exact D.oz | exact D.iz | exact D.jz | exact D.uo | exact D.ui | exact D.uj | exact D.oi | exact D.oj | exact D.ij
  | exact ne (p:=oi) ha hz nz | exact ne (p:=oi) hb hz nz | exact ne (p:=oi) ha ho nt | exact ne (p:=oi) hb ho nt | exact ne (p:=oi) ha hu nt | exact ne (p:=oi) hb hu nt
  | exact ne (p:=oi) ha ei hci | exact ne (p:=oi) hb ei hci | exact ne (p:=oi) ha ej hcj | exact ne (p:=oi) hb ej hcj
theorem EK {P:Program} {w:World} {K:zAa} {elts:List Expr} {n:Nat} {tp:Pos} (a b z u o i j:Addr) (D:Zp z u o i j) :
  C0 P w K (.Tuple elts n tp) (MS K a b) [z,u,o,i,j] z (IL a b z u o i j) where
 mem:=by simp
 obj:=fun k h st c hc=>by
  obtain⟨hz,hu,⟨x,y,ho⟩,⟨oi,ei,ci,di⟩,⟨oj,ej,cj,dj⟩⟩:=st;simp only [zAn,zBc,or_false] at hc;rcases hc with rfl | rfl | rfl | rfl | rfl
  ·exact⟨_,hz,fun v q=>by
    have q':Data.fields _=Data.cell v:=q;cases q'⟩
  ·exact⟨_,hu,fun v q=>by
    have q':Data.seq _ _=Data.cell v:=q;cases q'⟩
  ·exact⟨_,ho,fun v q=>by
    have q':Data.seq _ _=Data.cell v:=q;cases q'⟩
  ·exact⟨oi,ei,fun v q=>by rw[di] at q; cases q⟩
  ·exact⟨oj,ej,fun v q=>by rw[dj] at q; cases q⟩
 keep:=fun k h h' st kk=>by
  obtain⟨hz,hu,⟨x,y,ho⟩,h1,h2⟩:=st;exact⟨kk z (by simp) _ hz,kk u (by simp) _ hu,⟨x,y,kk o (by simp) _ ho⟩,h1.at fun ob e=>kk i (by simp) ob e,h2.at fun ob e=>kk j (by simp) ob e⟩
 item:=by
  intro X hP hw hK hc k pins s σ H E I hf st hg;subst hP hw hK;obtain⟨xs,ys,x,y,hq1,hq2,hx,hy⟩:=hg;obtain⟨its,rv,p,hz⟩:=I.list hq1;obtain⟨jts,rv',p',hz'⟩:=I.list hq2;obtain⟨v,hv,ru⟩:=rv.get hx;obtain⟨v',hv',ru'⟩:=rv'.get hy;have DD:=Wf D st p.isList p'.isList;obtain⟨sz,su,⟨x0,y0,so⟩,s1,s2⟩:=id st;have fz:=hf z (by simp);have fu:=hf u (by simp);have fo:=hf o (by simp);have fi:=hf i (by simp);have fj:=hf j (by simp);refine wpAny_pyNext_zip_item DD sz su so s1 s2 p.isList p'.isList (x:=v) (y:=v') (by simpa using hv) (by simpa using hv') fun h1 a1 a2 a3 a4 a5 a6 hk=>⟨_,rfl,?_⟩;refine wpAny_letOwnedTupleGo_zip a1 fun h2 hz2 hs2=>?_;have hs2':zBg z h1 h2:=hs2;have hzlt:z<s.heap.objs.size:=zAq sz;have hnT:H s.heap.objs.size=none:=I.hok.fresh (zAl _);have up:∀ c ob,c≠z->c≠o->c≠i->c≠j->s.heap.get? c=some ob->h2.get? c=some ob:=fun c ob c1 c2 c3 c4 q=>(hs2'.2 c c1).trans (hk c ob c1 c2 c3 c4 q);have nch:∀ c,c∉[z,o,i,j]->c≠z/\c≠o/\c≠i/\c≠j:=fun c hc=>by
   simp only [zAn,zBc,or_false,not_or] at hc;exact hc
  have ntr:∀ c ob,H c=some ob->c≠z/\c≠o/\c≠i/\c≠j:=fun c ob q=>
   ⟨fun e=>by (rw[e,fz.1] at q; cases q),fun e=>by (rw[e,fo.1] at q; cases q),fun e=>by (rw[e,fi.1] at q; cases q),fun e=>by (rw[e,fj.1] at q; cases q)⟩
  have up2:∀ c ob,c∉[z,o,i,j]->s.heap.get? c=some ob->h2.get? c=some ob:=fun c ob hc q=>up c ob (nch c hc).1 (nch c hc).2.1 (nch c hc).2.2.1 (nch c hc).2.2.2 q;have up3:∀ c ob ob',H c=some ob'->s.heap.get? c=some ob->h2.get? c=some ob:=fun c ob ob' hc q=>up c ob (ntr c ob' hc).1 (ntr c ob' hc).2.1 (ntr c ob' hc).2.2.1 (ntr c ob' hc).2.2.2 q;have htup:h2.get? s.heap.objs.size=some { cls:=.type "tuple",data:=.seq #[v,v'] }:=(hs2'.2 _ (zBs hzlt)).trans a5;have I1:Inv X pins σ (upd H s.heap.objs.size (.tup [x,y])) { s with heap:=h2,gens:=s.gens,drawn:=s.drawn,toks:=s.toks }:=by
   refine I.step (ch:=[z,o,i,j]) (fun c hc=>?_) (fun c ob _ _ hc q _=>up2 c ob hc q) (fun c ob _ _ hc q _=>⟨ob.slots,up2 c ob hc q⟩) (fun c ob _ q n=>by rw[Aw (zAu (zAq q))]; exact n)
    (fun c ob hc q=>⟨ob,up2 c ob hc q⟩) (fun c xs q=>by rw[Aw (Aq q hnT)]; exact q) (fun c ob u q=>by rw[Aw (Aq q hnT)]; exact q) (fun c ps q=>⟨#[],by rw[Aw (Aq q hnT),q]; simp⟩)
    (fun m hm=>?_) (fun c ob q=>?_) I.bare
   ·simp only [zAn,zBc,or_false] at hc
    rcases hc with rfl | rfl | rfl | rfl
    ·exact⟨fz.2.2.2.1,fz.2.1,fz.2.2.2.2.1,fz.2.2.2.2.2⟩
    ·exact⟨fo.2.2.2.1,fo.2.1,fo.2.2.2.2.1,fo.2.2.2.2.2⟩
    ·exact⟨fi.2.2.2.1,fi.2.1,fi.2.2.2.2.1,fi.2.2.2.2.2⟩
    ·exact⟨fj.2.2.2.1,fj.2.1,fj.2.2.2.2.1,fj.2.2.2.2.2⟩
   ·obtain⟨ob,es,ep,hoL,r⟩:=hm
    exact⟨ob,es,ep,up _ ob (Ne.symm fz.2.1) (Ne.symm fo.2.1) (Ne.symm fi.2.1) (Ne.symm fj.2.1) hoL,r⟩
   ·by_cases hb:c=s.heap.objs.size
    ·subst hb
     rw[Ac] at q;cases q;exact⟨By (by show 2<=1000; decide),[v,v'],.cons ru (.cons ru' .nil),_,htup,rfl,_,rfl⟩
    ·rw[Aw hb] at q
     refine (I.hok c ob q).stay (fun d w' hd q2=>?_) (fun d q2=>by rw[Aw (Aq q2 hnT)]; exact q2) (fun d zs q2=>by rw[Aw (Aq q2 hnT)]; exact q2);rcases hd with rfl | hd
     ·exact up3 _ w' _ q q2
     ·exact up3 _ w' _ hd q2
  refine⟨.ref s.heap.objs.size,_,I1,rfl,⟨_,x,y,rfl,hnT,fun zs hy'=>by rw[I.list_inj hy' hq1]; exact hx,fun zs hy'=>by rw[I.list_inj hy' hq2]; exact hy,rfl⟩,⟨hz2,?_,⟨v,v',?_⟩,?_,?_⟩,fun c hc=>?_⟩
  ·exact (hs2'.2 u D.uz).trans (hk u _ D.uz D.uo D.ui D.uj su)
  ·exact (hs2'.2 o D.oz).trans a2
  ·exact a3.at fun ob q=>(hs2'.2 i D.iz).trans q
  ·exact a4.at fun ob q=>(hs2'.2 j D.jz).trans q
  ·have hl:c<s.heap.objs.size:=by
    simp only [zAn,zBc,or_false] at hc;rcases hc with rfl | rfl | rfl | rfl | rfl
    ·exact zAq sz
    ·exact zAq su
    ·exact zAq so
    ·obtain⟨_,q,_⟩:=s1; exact zAq q
    ·obtain⟨_,q,_⟩:=s2; exact zAq q
   rw[Aw (zAu hl)];exact (hf c hc).1
 done:=by
  intro X hP hw hK hc k pins s σ H E I hf st hg;subst hP hw hK;obtain⟨xs,ys,hq1,hq2,hle⟩:=hg;obtain⟨its,rv,p,hz⟩:=I.list hq1;obtain⟨jts,rv',p',hz'⟩:=I.list hq2;have DD:=Wf D st p.isList p'.isList;obtain⟨sz,su,⟨x0,y0,so⟩,s1,s2⟩:=id st;have fz:=hf z (by simp);have fo:=hf o (by simp);have fi:=hf i (by simp);have fj:=hf j (by simp);have hl:=rv.length;have hl':=rv'.length;refine wpAny_pyNext_zip_end (I.ok.hd hc) DD sz su so s1 s2 p.isList p'.isList ?_ fun h' hk=>⟨rfl,?_⟩
  ·rcases hle with e | e
   ·exact .inl (by simp; lia)
   ·exact .inr (by simp; lia)
  ·have nch:∀ c,c∉[z,o,i,j]->c≠z/\c≠o/\c≠i/\c≠j:=fun c hc=>by
    simp only [zAn,zBc,or_false,not_or] at hc;exact hc
   have ntr:∀ c ob,H c=some ob->c≠z/\c≠o/\c≠i/\c≠j:=fun c ob q=>
    ⟨fun e=>by (rw[e,fz.1] at q; cases q),fun e=>by (rw[e,fo.1] at q; cases q),fun e=>by (rw[e,fi.1] at q; cases q),fun e=>by (rw[e,fj.1] at q; cases q)⟩
   have up2:∀ c ob,c∉[z,o,i,j]->s.heap.get? c=some ob->h'.get? c=some ob:=fun c ob hc q=>hk c ob (nch c hc).1 (nch c hc).2.1 (nch c hc).2.2.1 (nch c hc).2.2.2 q;have up3:∀ c ob ob',H c=some ob'->s.heap.get? c=some ob->h'.get? c=some ob:=fun c ob ob' hc q=>hk c ob (ntr c ob' hc).1 (ntr c ob' hc).2.1 (ntr c ob' hc).2.2.1 (ntr c ob' hc).2.2.2 q;refine I.step (H':=H) (ch:=[z,o,i,j]) (fun c hc=>?_) (fun c ob _ _ hc q _=>up2 c ob hc q) (fun c ob _ _ hc q _=>⟨ob.slots,up2 c ob hc q⟩) (fun c ob _ q n=>n)
    (fun c ob hc q=>⟨ob,up2 c ob hc q⟩) (fun c xs q=>q) (fun c ob u q=>q) (fun c ps q=>⟨#[],by rw[q]; simp⟩)
    (fun m hm=>?_) (fun c ob q=>?_) I.bare
   ·simp only [zAn,zBc,or_false] at hc
    rcases hc with rfl | rfl | rfl | rfl
    ·exact⟨fz.2.2.2.1,fz.2.1,fz.2.2.2.2.1,fz.2.2.2.2.2⟩
    ·exact⟨fo.2.2.2.1,fo.2.1,fo.2.2.2.2.1,fo.2.2.2.2.2⟩
    ·exact⟨fi.2.2.2.1,fi.2.1,fi.2.2.2.2.1,fi.2.2.2.2.2⟩
    ·exact⟨fj.2.2.2.1,fj.2.1,fj.2.2.2.2.1,fj.2.2.2.2.2⟩
   ·obtain⟨ob,es,ep,hoL,r⟩:=hm
    exact⟨ob,es,ep,hk _ ob (Ne.symm fz.2.1) (Ne.symm fo.2.1) (Ne.symm fi.2.1) (Ne.symm fj.2.1) hoL,r⟩
   ·refine (I.hok c ob q).stay (fun d w' hd q2=>?_) (fun d q2=>q2) (fun d zs q2=>q2)
    rcases hd with rfl | hd
    ·exact up3 _ w' _ q q2
    ·exact up3 _ w' _ hd q2
 self:=fun _ _ _ _ _ st h=>wpAny_pyIter_zip st.1 h
def OK (K:zAa) (ta:TA):TI:=fun σ H R=>ta σ H fun vs H1=>∃ a b,vs=[.ref a,.ref b]/\(∃ xs,SqL K H1 a xs)/\(∃ ys,SqL K H1 b ys)/\R (MS K a b) H1
theorem JL {X:Cx} {e1 e2:Expr} {ta:TA} {p pos tp:Pos} {elts:List Expr} {n:Nat} (hg:Gl X "zip") (hm:X.mg "zip" = none) (ha:PA X [e1,e2] ta) (hs:starEach [e1,e2] X.env=[(false,eval e1 X.env),(false,eval e2 X.env)]:=by rfl) (hs2:starEach [e2] X.env=[(false,eval e2 X.env)]:=by rfl) :
  PI X (.Tuple elts n tp) (.Call (.Name "zip" p) [e1,e2] [] pos) (OK X.K ta):=by
 intro pins s σ H R I h;refine Call_ (Hv I hg hm (show zCx "zip" = some (.type "zip") from rfl) (PyProof.Rows.callWith_type1 (Db (ha pos pins s σ H _ I h) fun us s1 ⟨vs,H1,I1,r1,q1⟩=>?_) (by rw[hs,hs2]) (by rw[hs2]; rfl)));obtain⟨a,b,ev,⟨xs,hq1⟩,⟨ys,hq2⟩,q⟩:=q1;subst ev;cases r1 with
 | cons ra rr=>
  cases rr with
  | cons rb rr=>
   cases rr
   cases ra
   cases rb
   obtain⟨its,rv,pl,hz⟩:=I1.list hq1;obtain⟨jts,rv',pl',hz'⟩:=I1.list hq2;refine call_zip_2 pl.isList pl'.isList fun h' b1 b2 b3 b4 b5 b6 hk=>?_;refine wpAny_pyIter_zip b1 ?_;have I2:Inv X pins σ H1 { s1 with heap:=h' }:=I1.kept (t':=s1.toks) hk;refine⟨_,[s1.heap.objs.size+4,s1.heap.objs.size+2,s1.heap.objs.size+3,s1.heap.objs.size,s1.heap.objs.size+1],_,_,H1,rfl,I2,EK a b (s1.heap.objs.size+4) (s1.heap.objs.size+2) (s1.heap.objs.size+3) s1.heap.objs.size (s1.heap.objs.size+1) (KD _),⟨b1,b2,⟨_,_,b3⟩,b4,b5⟩,fun c hc=>?_,q⟩;have le:s1.heap.objs.size<=c:=by
    simp only [zAn,zBc,or_false] at hc;rcases hc with rfl | rfl | rfl | rfl | rfl <;> lia
   exact I1.fpOk le (I1.hok.fresh le)
theorem HF {K K':zAa} {a b:Addr} {xs ys:List V} {i1 i2:Nat} {tb:TS} {D:Qy} {σ:St} {H:Hp} (Pv:Nat->St->Hp->Prop) (h0:Pv 0 σ H) (hl:∀ i σ H,i<=min xs.length ys.length->Pv i σ H->SqL K H a xs/\SqL K H b ys)
  (hs:∀ i x y σ H t,xs[i]?=some x->ys[i]?=some y->Pv i σ H->H t=none->tb { D with nx:=Pv (i+1),ct:=Pv (i+1),bk:=D.nx } ((σ.set i1 (some x)).set i2 (some y)) (upd H t (.tup [x,y]))) (hd:∀ σ H,Pv (min xs.length ys.length) σ H->D.nx σ H) :
  ∃ W:Nat->Nat->St->Hp->Prop,(∃ m,W 0 m σ H)/\∀ i m σ H,W i m σ H ->
   ((MS K a b).stop i H/\D.nx σ H)\/((MS K a b).go i H/\∃ N:St->Hp->Prop,(∀ σ' H',N σ' H'->∃ m',m'<m/\W (i+1) m' σ' H')/\∀ x H',(MS K a b).yld i H x H'->AZ K' 2 (Kn (Er i1) (Kn (Er i2) EE)) x σ H' fun σ2 H2=>tb { D with nx:=N,ct:=N,bk:=D.nx } σ2 H2):=by
 refine⟨fun i m σ H=>m=min xs.length ys.length-i/\i<=min xs.length ys.length/\Pv i σ H,⟨min xs.length ys.length,rfl,zAA _,h0⟩,?_⟩;rintro i m σ H ⟨rfl,hi,p⟩;obtain⟨q1,q2⟩:=hl i σ H hi p;by_cases hlt:i<min xs.length ys.length
 ·have l1:i<xs.length:=by lia
  have l2:i<ys.length:=by lia
  refine .inr ⟨⟨xs,ys,xs[i],ys[i],q1,q2,by simp [l1],by simp [l2]⟩,Pv (i+1),fun σ' H' p'=>⟨min xs.length ys.length-(i+1),by lia,rfl,by lia,p'⟩,fun v H' y=>?_⟩;obtain⟨t,x,z,ex,ht,hx,hz,e3⟩:=y;subst ex e3;exact⟨t,_,rfl,SqT.of Ac,rfl,_,_,rfl,_,_,rfl,rfl,hs i x z σ H t (hx xs q1) (hz ys q2) p ht⟩
 ·obtain rfl:i=min xs.length ys.length:=by lia
  exact .inl ⟨⟨xs,ys,q1,q2,by lia⟩,hd σ H p⟩
theorem W4 (l:List Nat):∀ n:Nat,(zAH n l.toArray).foldl (· ++ ·) #[]=((zAH n l).flatten).toArray:=fun n=>by
 have go:∀ (n:Nat) (a:List Nat),(zAH n l.toArray).foldl (· ++ ·) a.toArray=(a++(zAH n l).flatten).toArray:=fun n=>by
  induction n with
  | zero=>intro a; simp
  | succ n ih=>
   intro a;rw[zBr,List.foldl_cons,zBr,zBw,<- zBS];have e:a.toArray++l.toArray=(a++l).toArray:=by simp
   rw[e];exact ih (a++l)
 have z:=go n []
 simpa using z
theorem Uh {X:Cx}:Lh X (binaryOp .Mult) (fun x y H Q=>∃ (l:List Nat) (n:Int),x = .str (tx l)/\y = .int n/\1<=n/\n<=1000/\l.length<=1000/\Q (.str (tx (zAH n.toNat l).flatten)) H):=by
 intro pins s σ H x y v u Q I rx ry h;obtain⟨l,n,rfl,rfl,h1,h2,h3,q⟩:=h;obtain⟨t,rfl⟩:=rx;obtain⟨t',rfl⟩:=ry;have hl:(tx l).length=l.length:=Dr l;have small:l.length*n.toNat<=1000*1000:=Nat.mul_le_mul h3 (by lia);refine PySem.P.mul_str ?_ (fun _ _=>?_) (fun _ _=>?_) ?_
 ·rw[decide_eq_false (by lia),decide_eq_false (by lia)]; rfl
 ·rw[hl]
  have:(1000:Int)<=(2^63-1)/n:=Int.le_ediv_of_mul_le (by lia) (by lia)
  lia
 ·rw[hl]
  unfold Builtin.Str.tooLong;simp only [decide_eq_false_iff_not];have:=zCw
  lia
 ·rw[if_neg (by lia)]
  by_cases c:(n==1||(tx l).length==0)=true
  ·rw[if_pos c]
   refine⟨.str (tx (zAH n.toNat l).flatten),H,I,⟨t,?_⟩,q⟩;have e:(zAH n.toNat l).flatten=l:=by
    rcases (Bool.or_eq_true _ _).mp c with z | z
    ·have z':n=1:=by simpa using z
     subst z';simp
    ·have z':l=[]:=by
      rw[hl] at z;exact List.eq_nil_of_length_eq_zero (by simpa using z)
     subst z';simp
   rw[e]
  ·rw[if_neg c]
   refine⟨?_,.str (tx (zAH n.toNat l).flatten),H,I.tok _,⟨s.toks,?_⟩,q⟩
   ·have e:=W4 l n.toNat
    show (⟨(zAH n.toNat (tx l).cps).foldl (· ++ ·) #[]⟩:Str).length<=sizeLine;unfold tx;rw[e];have e2:(⟨((zAH n.toNat l).flatten).toArray⟩:Str)=tx (zAH n.toNat l).flatten:=rfl;rw[e2,Dr,GZ,zCw,Nat.mul_comm]
    lia
   ·show Value.str ⟨(zAH n.toNat (tx l).cps).foldl (· ++ ·) #[]⟩ _=Value.str (tx _) _
    have e:=W4 l n.toNat;unfold tx at *;rw[e]
section
variable {prog:Program} {w:World} {A:Around} {E:Value->Shared->Prop} {s:Shared}
end
section
variable {X:Cx} {pins:List (Addr×Obj)} {σ:St} {H:Hp} {s:Shared}
end
section
variable {P:Program} {w:World} {K:zAa} {mg:Str->Option Value} {base:Heap} {N ps:List Str} {qual:Str} {scope:Scope} {f:Addr} {cd:Value} {A:Around} {outer:List Env} {s0:Shared} {H0:Hp} {E:XK} {k:Nat} {sp:Sp} {x:Str} {st:Stmt} {fd:zCy}
end
section
variable {X:Cx} {k:Nat} {f:Addr} {fd:zCy} {ps:List Str} {sp:Sp} {x:Str} {p pos:Pos} {e:Expr} {es:List Expr} {t:TA} {W:St->XK}
end
section
variable {prog:Program} {w:World} {A:Around} {E:Value->Shared->Prop} {env:Env}
variable {nm q:Str} {C N:Addr} {bs bm bmB:List Value} {hdct:Bool} {sn:List Str} {sub:List Value} {ab:Bool} {col:Option Bool} {dd:Option Addr} {k0 k1 k2 k3 k5:Option Value} {B newId initId:String}
end
section
variable {X:Cx} {x n:Str} {Ch:Addr} {i:Nat} {body suite:List Stmt} {b₀ : Stmt} {tb:(St->XK)->TS} {ts:TS} {np hpos pos:Pos} {pins:List (Addr×Obj)} {σ:St} {H:Hp} {s:Shared} {e:Addr} {oe:Obj}
end
end L2
namespace L2
open PySem PySem.Spec PyProof.Rows PySem.W
section
variable {X:Cx} {pins:List (Addr×Obj)} {σ:St} {H H':Hp} {s:Shared}
end
section
variable {X:Cx} {pins:List (Addr×Obj)} {σ:St} {H:Hp} {s:Shared}
end
section
variable {prog:Program} {w:World} {A:Around} {E:Value->Shared->Prop} {s:Shared}
end
section
variable {X:Cx} {pins:List (Addr×Obj)} {σ:St} {H:Hp} {s:Shared}
end
section
variable {X:Cx}
end
theorem AH {X:Cx} {k:Nat} {x:Str} {C:Addr} {ps:List Str} {sp:Sp} {p pos:Pos} (M:Es X.prog X.w X.K X.mg X.base k x C ps sp) (hr:Room (k+1) X.A) (hg:Gl X x) (hdb:(x==("__debug__" : Str))=false:=by decide) :
  PE X (.Call (.Name x p) [] [] pos) (R7 C sp [] E0 LC):=by
 obtain⟨f,fd,mk,F,b,hm⟩:=M.ex;exact BX mk F hr hg hm b .nil Xe hdb
end L2
namespace CRL
open PySem L2
def GX (H H':Hp):Prop:=∀ t xs,H t=some (.tup xs)->H' t=some (.tup xs)
theorem Bq {H H':Hp} (s:Same H H'):GX H H':=fun t xs h=>s t _ h
theorem Dm {H:Hp} {l:Addr} {xs:List V} (h:H l=some (.lst xs)) (o:HO):GX H (upd H l o):=fun t zs z=>by
 rw[Aw (Eu z h (by intro e; cases e))];exact z
abbrev Tr:=Int×Int×Int
def Trs (H:Hp):List V->List Tr->Prop
 | [],[]=>True
 | x::xs,p::ps=>(∃ t,x = .ref t/\H t=some (.tup [.int p.1,.int p.2.1,.int p.2.2]))/\Trs H xs ps
 | _,_=>False
theorem Trs.len {H:Hp}:∀ {xs:List V} {ps:List Tr},Trs H xs ps->xs.length=ps.length
 | [],[],_=>rfl
 | [],_::_,h=>h.elim
 | _::_,[],h=>h.elim
 | x::xs,p::ps,h=>by rw[zAg,zAg,Trs.len h.2]
theorem Trs.mono {H H':Hp} (s:GX H H'):∀ {xs:List V} {ps:List Tr},Trs H xs ps->Trs H' xs ps
 | [],[],_=>trivial
 | [],_::_,h=>h.elim
 | _::_,[],h=>h.elim
 | x::xs,p::ps,⟨⟨t,e,h⟩,r⟩=>⟨⟨t,e,s _ _ h⟩,Trs.mono s r⟩
theorem Trs.get {H:Hp}:∀ {xs:List V} {ps:List Tr} {i:Nat} {x:V},Trs H xs ps->xs[i]?=some x->∃ t p,ps[i]?=some p/\x = .ref t/\H t=some (.tup [.int p.1,.int p.2.1,.int p.2.2])
 | [],[],_,_,_,e=>by simp at e
 | [],_::_,_,_,h,_=>h.elim
 | _::_,[],_,_,h,_=>h.elim
 | x::xs,p::ps,0,y,⟨⟨t,e,h⟩,r⟩,q=>by
  simp at q;subst q;exact⟨t,p,rfl,e,h⟩
 | x::xs,p::ps,i+1,y,⟨_,r⟩,q=>by
  obtain⟨t,p',h1,h2⟩:=Trs.get (i:=i) r (by simpa using q);exact⟨t,p',by simpa using h1,h2⟩
theorem Trs.snoc {H:Hp}:∀ {xs:List V} {ps:List Tr} {t:Addr} {a b c:Int},Trs H xs ps->H t=some (.tup [.int a,.int b,.int c])->Trs H (xs++[.ref t]) (ps++[(a,b,c)])
 | [],[],t,_,_,_,_,h=>⟨⟨t,rfl,h⟩,trivial⟩
 | [],_::_,_,_,_,_,r,_=>r.elim
 | _::_,[],_,_,_,_,r,_=>r.elim
 | x::xs,p::ps,_,_,_,_,⟨z,r⟩,h=>⟨z,Trs.snoc r h⟩
end CRL
namespace L2
open PySem PySem.Spec PyProof.Rows PySem.W
section
variable {P:Program} {w:World} {K:zAa} {mg:Str->Option Value} {base:Heap} {k:Nat} {f:Addr} {fd:zCy} {ps:List Str} {sp sp1 sp2:Sp}
end
section
variable {X:Cx} {k:Nat} {f C:Addr} {fd:zCy} {ps:List Str} {sp:Sp} {x:Str} {p pos:Pos} {e:Expr} {es:List Expr} {t:TA} {W:St->XK} {dvs:List V} {ds:List Value}
end
end L2
namespace CST
open PySem
abbrev Rs (xs:Array Nat):Prop:=xs.toList.Pairwise (· < ·)
theorem V1 {xs:Array Nat} (h:Rs xs) {i k:Nat} (hik:i<k) (hk:k<xs.size):xs[i]'(by lia)<xs[k]:=by
 have:=zBd.mp h i k (by simpa using (by lia:i<xs.size)) (by simpa using hk) hik
 simpa using this
structure QE (xs:Array Nat) (j p:Nat):Prop where
 le:p<=xs.size
 lo:∀ i (h:i<xs.size),i<p->xs[i]<j
 hi:∀ i (h:i<xs.size),p<=i->j<=xs[i]
theorem Rx {xs:Array Nat} {j:Nat} (r:Rs xs):∀ (f lo hi:Nat),hi-lo<=f->lo<=hi->hi<=xs.size->(∀ i (h:i<xs.size),i<lo->xs[i]<j)->(∀ i (h:i<xs.size),hi<=i->j<=xs[i])->QE xs j (SetTable.below.go xs j f lo hi)
 | 0,lo,hi,h0,h1,h2,a,b=>by
  have e:lo=hi:=by omega
  subst e;unfold SetTable.below.go;exact⟨h2,a,b⟩
 | f+1,lo,hi,h0,h1,h2,a,b=>by
  unfold SetTable.below.go;by_cases c:lo<hi
  ·rw[if_pos c]
   have hm:(lo+hi)/2<xs.size:=by omega
   have e:xs.getD ((lo+hi)/2) j=xs[(lo+hi)/2]:=by simp [zCc,hm]
   dsimp only
   rw[e];by_cases d:xs[(lo+hi)/2]<j
   ·rw[if_pos d]
    refine Rx r f _ hi (by omega) (by omega) h2 (fun i h hi'=>?_) b;by_cases q:i=(lo+hi)/2
    ·subst q; exact d
    ·exact Nat.lt_trans (V1 r (by omega) hm) d
   ·rw[if_neg d]
    refine Rx r f lo _ (by omega) (by omega) (by omega) a (fun i h hi'=>?_);by_cases q:i=(lo+hi)/2
    ·subst q; omega
    ·have:=V1 r (i:=(lo+hi)/2) (k:=i) (by omega) h
     omega
  ·rw[if_neg c]
   have e:lo=hi:=by omega
   subst e;exact⟨h2,a,b⟩
theorem Tk {xs:Array Nat} {j:Nat} (r:Rs xs):QE xs j (SetTable.below xs j):=by
 unfold SetTable.below;exact Rx r _ _ _ (by lia) (zAA _) (zAl _) (fun i _ h=>absurd h (zBq _)) (fun i h h'=>absurd h' (by lia))
structure Lm (by_:Bool) (t:SetTable):Prop where
 rs:Rs t.place
 dm:t.dummies = #[]
 ld:by_=false->t.led=true
theorem Se (b:Bool):Lm b (.fresh 0 0 (!b)):=⟨List.Pairwise.nil,rfl,fun h=>by rw[h]; rfl⟩
theorem Gf {b:Bool} {t:SetTable} (g:Lm b t) (n:Nat):Lm b (t.standIn n):=by
 refine⟨?_,rfl,g.ld⟩;show (Array.range n).toList.Pairwise (· < ·);rw[Array.toList_range];exact List.pairwise_lt_range
theorem O2 {b:Bool} {t:SetTable} (g:Lm b t) (p:Bool):Lm b { t with plain:=p }:=⟨g.rs,g.dm,g.ld⟩
theorem A7 (j:Nat):SetTable.has #[] j=false:=by
 unfold SetTable.has;have:(#[]:Array Nat)[SetTable.below #[] j]?=none:=by simp
 rw[this];rfl
theorem N7 {t:SetTable} {j:Nat} (dm:t.dummies = #[]):t.slot j = .empty\/∃ i,t.slot j = .live i:=by
 unfold SetTable.slot
 dsimp only
 by_cases c:(t.place[SetTable.below t.place j]?==some j)=true
 ·rw[if_pos c]; exact .inr ⟨_,rfl⟩
 ·rw[if_neg c,dm,A7]
  exact .inl rfl
theorem M9 {t:SetTable} {j:Nat} (r:Rs t.place) (h:t.slot j = .empty):∀ i (hi:i<t.place.size),t.place[i]≠j:=fun i hi e=>by
 have b:=Tk (j:=j) r;have hp:SetTable.below t.place j<=i:=by
  rcases Nat.lt_or_ge i (SetTable.below t.place j) with z | z
  ·have:=b.lo i hi z; lia
  ·exact z
 have hps:SetTable.below t.place j<t.place.size:=by lia
 have e2:t.place[SetTable.below t.place j]=j:=by
  have h1:=b.hi _ hps (zAl _);rcases Nat.lt_or_eq_of_le hp with z | z
  ·have:=V1 r z hi; lia
  ·have:t.place[SetTable.below t.place j]=t.place[i]:=by congr 1
   lia
 unfold SetTable.slot at h
 dsimp only at h
 have c:(t.place[SetTable.below t.place j]?==some j)=true:=by
  rw[zAY hps,e2];simp
 rw[if_pos c] at h;cases h
theorem D0 {t:SetTable} {ha:Nat->Int} {h:Int} (dm:t.dummies = #[]):∀ (f:Nat) (p:SetTable.Probe) (j:Nat) (d:Option Nat),p.dummy=none->SetTable.probe.go t ha h f p=some (.empty j d)->d=none/\t.slot j = .empty
 | 0,p,j,d,_,e=>by unfold SetTable.probe.go at e; cases e
 | f+1,p,j,d,hp,e=>by
  unfold SetTable.probe.go at e;have adv:(t.advance p).dummy=none:=by
   unfold SetTable.advance
   split
   ·exact hp
   ·exact hp
  rcases N7 (t:=t) (j:=p.j) dm with z | ⟨i,z⟩
  ·rw[z] at e
   dsimp only at e
   injection e with e;injection e with e1 e2;subst e1;exact⟨e2▸hp,z⟩
  ·rw[z] at e
   dsimp only at e
   split at e
   ·injection e with e; cases e
   ·exact D0 dm f _ j d adv e
theorem KQ {t:SetTable} {j:Nat} (r:Rs t.place) (h:∀ i (hi:i<t.place.size),t.place[i]≠j):Rs (t.put j).1.place:=by
 have b:=Tk (j:=j) r;show (SetTable.insertAt t.place (SetTable.below t.place j) j).toList.Pairwise (· < ·);rw[SetTable.toList_insertAt];have e1:∀ x∈t.place.toList.take (SetTable.below t.place j),x<j:=fun x hx=>by
  obtain⟨i,hi,ei⟩:=zAX hx;rw[List.getElem_take] at ei;have hi':i<SetTable.below t.place j/\i<t.place.size:=by
   rw[zAt,zAC] at hi; lia
  have:=b.lo i hi'.2 hi'.1;rw[<- ei]
  simpa using this
 have e2:∀ x∈t.place.toList.drop (SetTable.below t.place j),j<x:=fun x hx=>by
  obtain⟨i,hi,ei⟩:=zAX hx;rw[List.getElem_drop] at ei;have hi':SetTable.below t.place j+i<t.place.size:=by
   rw[zCa,zAC] at hi; lia
  have h1:=b.hi _ hi' (Nat.le_add_right _ _);have h2:=h _ hi';rw[<- ei];have:j<t.place[SetTable.below t.place j+i]:=by lia
  simpa using this
 refine List.pairwise_append.mpr ⟨r.sublist (List.take_sublist _ _),zAS.mpr ⟨e2,r.sublist (zBT _ _)⟩,fun a ha b' hb=>?_⟩;rcases zAn.mp hb with z | z
 ·rw[z]; exact e1 a ha
 ·exact Nat.lt_trans (e1 a ha) (e2 b' z)
theorem G5 {b:Bool} {t:SetTable} {j:Nat} (g:Lm b t) (h:t.slot j = .empty):Lm b (t.put j).1:=by
 refine⟨KQ g.rs (M9 g.rs h),?_,g.ld⟩;show (if SetTable.has t.dummies j then _ else t.dummies) = #[];rw[g.dm,A7];rfl
set_option tactic.hygienic true in
theorem A9 {b:Bool} {t:SetTable} (g:Lm b t) (es:Array (Int×Value)) (h:Int) (x:Value):Lm b (layNew t es h x).2.1/\(layNew t es h x).2.2.1=false:=by
 unfold layNew;cases e:t.freeSlot h with
 | none=>exact⟨Gf g _,rfl⟩
 | some p=>
  obtain⟨sl,wd⟩:=p;unfold SetTable.freeSlot at e
  split at e
  ·rename_i j d hp
   injection e with e;injection e with e1 e2;obtain⟨hd,hs⟩:=D0 g.dm _ _ j d rfl hp;subst hd
   dsimp only at e1 e2 ⊢
   have e1':j=sl:=e1;subst e1';refine⟨?_,e2.symm⟩;unfold SetTable.orStandIn
   split
   ·exact G5 g hs
   ·exact Gf (G5 g hs) _
  ·cases e
theorem Sn (o:Nat->Option Nat):∀ l:List Nat,((l.filterMap fun j=>(o j).map (j,·)).map (·.1)).Sublist l
 | []=>List.Sublist.slnil
 | j::l=>by
  rw[zCj];cases e:o j with
  | none=>exact (Sn o l).cons j
  | some k=>exact (Sn o l).cons₂ j
theorem Vq {b:Bool} {t:SetTable} (g:Lm b t) (es:Array (Int×Value)) (wanted:Nat):Lm b (relayAll t es wanted).2.1:=by
 unfold relayAll;cases e:t.relaid (es.map (·.1)) wanted with
 | none=>exact Gf g _
 | some p=>
  obtain⟨t',order⟩:=p
  dsimp only
  split
  ·unfold SetTable.relaid SetTable.laid at e
   cases e2:SetTable.layClean (SetTable.sizeAbove wanted-1) (es.map (·.1)) with
   | none=>rw[e2] at e; cases e
   | some owner=>
    rw[e2] at e;have e3:=Option.some.inj e;injection e3 with e4 _;subst e4;refine⟨?_,rfl,g.ld⟩;show (List.toArray _).toList.Pairwise (· < ·);rw[List.toList_toArray];exact List.pairwise_lt_range.sublist (Sn _ _)
  ·exact Gf g _
section
variable {prog:Program} {w:World} {K:Type} [DecidableEq K] (knd:KeyKind prog w K)
def JR (e:Int×Value) (k:K):Prop:=knd.is k e.2=true/\e.1=knd.hash k/\e.2.scannable=true
def GSet (h:Heap) (a:Addr) (ks:List K):Prop:=∃ o es ep t,h.get? a=some o/\o.ExactSet/\o.data = .set es ep t/\Paired (JR knd) es.toList ks/\ks.Nodup/\es.size<scanBound/\t.fits es.size=true/\Lm (w.params.followText "set-order") t
variable {knd}
variable {A:Around} {E:Value->Shared->Prop} {s:Shared}
theorem Qd {α β:Type} {F:α->β->Prop}:∀ {l l':List α} {ks:List β},l'.Perm l->Paired F l ks->∃ ks',ks'.Perm ks/\Paired F l' ks':=by
 intro l l' ks p;have q:=p.symm;clear p
 induction q generalizing ks with
 | nil=>intro h; exact⟨ks,List.Perm.refl _,h⟩
 | cons x _ ih=>
  intro h;cases h with
  | cons r t=>
   obtain⟨ks',p',h'⟩:=ih t;exact⟨_,p'.cons _,.cons r h'⟩
 | swap x y l=>
  intro h;cases h with
  | cons r t=>
   cases t with
   | cons r2 t2=>exact⟨_,List.Perm.swap _ _ _,.cons r2 (.cons r t2)⟩
 | trans _ _ ih1 ih2=>
  intro h;obtain⟨k1,p1,h1⟩:=ih1 h;obtain⟨k2,p2,h2⟩:=ih2 h1;exact⟨k2,p2.trans p1,h2⟩
theorem Qc {α β:Type} {F:α->β->Prop} {a:α} {b:β} (r:F a b):∀ {l:List α} {ks:List β},Paired F l ks->Paired F (l++[a]) (ks++[b])
 | _,_,.nil=>.cons r .nil
 | _,_,.cons q t=>.cons q (Qc r t)
theorem Mr {α β:Type} {F:α->β->Prop}:∀ {l:List α} {ks:List β},Paired F l ks->∀ a∈l,∃ b∈ks,F a b
 | _,_,.nil,_,h=>nomatch h
 | _,_,.cons q t,a,h=>by
  rcases zAn.mp h with z | z
  ·subst z; exact⟨_,zAk,q⟩
  ·obtain⟨b,hb,r⟩:=Mr t a z
   exact⟨b,zAd _ hb,r⟩
theorem Qg {α β:Type} {F:α->β->Prop}:∀ {l:List α} {ks:List β},Paired F l ks->∀ b∈ks,∃ a∈l,F a b
 | _,_,.nil,_,h=>nomatch h
 | _,_,.cons q t,a,h=>by
  rcases zAn.mp h with z | z
  ·subst z; exact⟨_,zAk,q⟩
  ·obtain⟨b,hb,r⟩:=Qg t a z
   exact⟨b,zAd _ hb,r⟩
theorem NG {l:List (Int×Value)} {ks:List K} (h:Paired (JR knd) l ks):ElemsOf knd l:=fun e he=>by
 obtain⟨k,_,r1,r2,r3⟩:=Mr h e he;exact⟨⟨k,r1,r2⟩,r3⟩
theorem G6 {l:List (Int×Value)} {ks:List K} {k:K} (h:Paired (JR knd) l ks):(l.findIdx? fun e=>knd.is k e.2)=none↔k∉ks:=by
 rw[List.findIdx?_eq_none_iff];constructor
 ·intro z hk
  obtain⟨e,he,r⟩:=Qg h k hk;have:=z e he;rw[r.1] at this;cases this
 ·intro z e he
  obtain⟨k',hk',r⟩:=Mr h e he;cases c:knd.is k e.2 with
  | false=>rfl
  | true=>exact absurd (knd.inj _ _ _ c r.1▸hk') z
theorem stored {h:Heap} {a:Addr} {o:Obj} {es es':Array (Int×Value)} {ep:Nat} {t t':SetTable} {ks:List K} (ho:h.get? a=some o) (hex:o.ExactSet) (hd:o.data = .set es ep t) (hp:Paired (JR knd) es'.toList ks) (nd:ks.Nodup) (hb:es'.size<scanBound) (hf:t'.fits es'.size=true)
  (g:Lm (w.params.followText "set-order") t'):(h.update a (Obj.putSet es' t')).get? a=some { o with data:=.set es' (ep+1) t' }/\GSet knd (h.update a (Obj.putSet es' t')) a ks:=by
 have hg:(h.update a (Obj.putSet es' t')).get? a=some { o with data:=.set es' (ep+1) t' }:=by
  have q:=zBV (Obj.putSet es' t') ho (by rw[putSet_of es' t' hd]; rfl)
  rwa [putSet_of es' t' hd] at q
 exact⟨hg,_,es',ep+1,t',hg,hex,rfl,hp,nd,hb,hf,g⟩
theorem E6 {a:Addr} {o:Obj} {es es1:Array (Int×Value)} {ep:Nat} {t t2:SetTable} {ks1:List K} (ho:s.heap.get? a=some o) (hex:o.ExactSet) (hd:o.data = .set es ep t) (hp:Paired (JR knd) es1.toList ks1) (nd:ks1.Nodup) (hb:es1.size<scanBound) (hf:t2.fits es1.size=true)
  (g:Lm (w.params.followText "set-order") t2) {wd:Bool} {gw:Bool->Sem Unit} (hgw:∀ (b:Bool) (s₁ : Shared) (Q':Unit->Shared->Prop),Q' () s₁ -> wpAny (model prog w) A (gw b) Q' E s₁) {R:Option Bool->Shared->Prop}
  (h:∀ h' ks',zBg a s.heap h'->GSet knd h' a ks'->ks'.Perm ks1->R (some true) { s with heap:=h' }) :
  wpAny (model prog w) A (do
   storeSet a es1 t2
   if (!wd&&t2.tooFull)=true then do
    gw (relayAll t2 es1 (SetTable.grown es1.size)).2.2
    storeSet a (relayAll t2 es1 (SetTable.grown es1.size)).1 (relayAll t2 es1 (SetTable.grown es1.size)).2.1
    pure (some true)
   else pure (some true)) R E s:=by
 obtain⟨ho1,G1⟩:=stored (knd:=knd) ho hex hd hp nd hb hf g;have sb:=zBg.update s.heap a (Obj.putSet es1 t2);refine zCu (wpAny_storeSet_of ho hd ?_ (fits_of_scanBound hb));by_cases c:(!wd&&t2.tooFull)=true
 ·rw[if_pos c]
  have p2:=relayAll_perm t2 es1 (SetTable.grown es1.size);have f2:=relayAll_fits t2 es1 (SetTable.grown es1.size);have g2:=Vq g es1 (SetTable.grown es1.size);generalize relayAll t2 es1 (SetTable.grown es1.size)=Y at p2 f2 g2;obtain⟨es2,t3,gv⟩:=Y
  dsimp only at p2 f2 g2
  have z2:es2.size=es1.size:=by rw[<- zAC,p2.length_eq,zAC]
  obtain⟨ks2,q2,hp2⟩:=Qd p2 hp;refine zCu (hgw _ _ _ (zCu (wpAny_storeSet_of ho1 rfl ?_ (fits_of_scanBound (by rw[z2]; exact hb)))));obtain⟨_,G2⟩:=stored (knd:=knd) ho1 hex rfl hp2 (q2.nodup_iff.mpr nd) (by rw[z2]; exact hb) f2 g2;exact zCv (h _ ks2 (sb.trans (zBg.update _ a _)) G2 q2)
 ·rw[if_neg c]
  exact zCv (h _ ks1 sb G1 (List.Perm.refl _))
theorem IF {a:Addr} {ks:List K} {k:K} {x:Value} {Q:Bool->Shared->Prop} (hkey:knd.is k x=true) (hsc:x.scannable=true) (hS:GSet knd s.heap a ks) (hroom:ks.length+1<scanBound)
  (h:∀ b h' ks',zBg a s.heap h'->GSet knd h' a ks'->ks'.Perm (if k∈ks then ks else ks++[k])->Q b { s with heap:=h' }) :
  wpAny (model prog w) A (setAddHashed a x (knd.hash k)) Q E s:=by
 obtain⟨o,es,ep,t,ho,hex,hd,hp,nd,hb,hf,g⟩:=id hS;have hel:=NG hp;have lk:es.size=ks.length:=by rw[<- zAC]; exact Paired.length hp
 unfold setAddHashed setAddHashedIn;refine wpAny_holding (zCu (wpAny_setState_of ho hd hf ?_))
 dsimp only
 rw[byScan_of hsc hb hel];simp only [↓reduceIte];unfold setAddByScan;refine zCu (zCu (wpAny_rule (zCu (wpAny_setScan_of hkey ho hd hf hel ?_))));cases hr:List.findIdx? (fun e=>knd.is k e.2) es.toList with
 | some j=>
  have hk:k∈ks:=Classical.byContradiction fun z=>by rw[(G6 hp).mpr z] at hr; cases hr
  dsimp only
  refine zCv (zCv ?_);have e:s={ s with heap:=s.heap }:=by cases s; rfl
  rw[e];exact h false s.heap ks (zBg.refl a s.heap) hS (by rw[if_pos hk])
 | none=>
  have hk:k∉ks:=(G6 hp).mp hr
  dsimp only
  have p1:=layNew_perm t es (knd.hash k) x;have f1:=layNew_fits t es (knd.hash k) x;have g1:=(A9 g es (knd.hash k) x).1;generalize layNew t es (knd.hash k) x=Y at p1 f1 g1 ⊢;obtain⟨es1,t1,wd,gv⟩:=Y
  dsimp only at p1 f1 g1 ⊢
  rw[Array.toList_push] at p1;obtain⟨ks1,q1,hp1⟩:=Qd p1 (Qc (show JR knd (knd.hash k,x) k from ⟨hkey,rfl,hsc⟩) hp);have nd1:ks1.Nodup:=q1.nodup_iff.mpr (List.nodup_append.mpr ⟨nd,by simp,fun a ha b hb'=>by rw[zAo] at hb'; subst hb'; rintro rfl; exact hk ha⟩);have b1:es1.size<scanBound:=by rw[<- zAC,p1.length_eq,zAi,zAC,lk]; exact hroom
  have fin:∀ h' ks',zBg a s.heap h'->GSet knd h' a ks'->ks'.Perm ks1->Q true { s with heap:=h' }:=fun h' ks' sb G p=>h true h' ks' sb G (by rw[if_neg hk]; exact p.trans q1);have gw:∀ (b:Bool) (s₁ : Shared) (Q':Unit->Shared->Prop),Q' () s₁ -> wpAny (model prog w) A (match b with | true=>rule "set.scan.the-table-gave-way" | false=>pure ()) Q' E s₁ :=
   fun b s₁ Q' hq=>by cases b <;> first | exact zCv hq | exact wpAny_rule hq
  refine zCu (gw _ _ _ ?_)
  split
  ·refine zCu ?_
   rw[hashByValue_scannable 8 hsc];refine zCv ?_;refine E6 (ks1:=ks1) (knd:=knd) ho hex hd hp1 nd1 b1 ?_ ?_ gw fun h' ks' sb G p=>?_
   ·split
    ·exact f1
    ·exact SetTable.fits_plain_off f1
   ·split
    ·exact g1
    ·exact O2 g1 _
   ·exact zCv (fin h' ks' sb G p)
  ·refine zCu (zCv ?_)
   simp only [↓reduceIte];exact E6 (ks1:=ks1) (knd:=knd) ho hex hd hp1 nd1 b1 f1 g1 gw fun h' ks' sb G p=>zCv (fin h' ks' sb G p)
end
theorem slot_sin:Slot "set_iterator" "__next__" "set_iterator.__next__" :=
 .of (owner := "set_iterator") (n := "__next__") (by rw[typeLookup_type,builtinLookup_eq_fast]; kernel_rfl) (by decide +kernel) (by decide +kernel) (by decide +kernel) (by first | exact .inl (by decide +kernel) | exact .inr (by decide +kernel)) (by rw[isSubtype_type]; kernel_rfl)
theorem La:entryFor table "set_iterator.__next__" = some Builtin.«set_iterator.__next__» := entryFor_of_fast (by kernel_rfl)
theorem Oa (a:Value):argsOk "set_iterator.__next__" ⟨[a],[]⟩:=by unfold argsOk; kernel_rfl
theorem C2:Slot "set_iterator" "__iter__" "set_iterator.__iter__" :=
 .of (owner := "set_iterator") (n := "__iter__") (by rw[typeLookup_type,builtinLookup_eq_fast]; kernel_rfl) (by decide +kernel) (by decide +kernel) (by decide +kernel) (by first | exact .inl (by decide +kernel) | exact .inr (by decide +kernel)) (by rw[isSubtype_type]; kernel_rfl)
theorem EM (a:Value):argsOk "set_iterator.__iter__" ⟨[a],[]⟩:=by unfold argsOk; kernel_rfl
theorem AG:entryFor table "set_iterator.__iter__" = some Builtin.«dict_keyiterator.__iter__» :=
 entryFor_alias (id' := "dict_keyiterator.__iter__") (by kernel_rfl) rfl (by decide +kernel) (by kernel_rfl)
theorem DW:entryFor table "set.__iter__" = some Builtin.«frozenset.__iter__» :=
 entryFor_alias (id' := "frozenset.__iter__") (by kernel_rfl) rfl (by decide +kernel) (by kernel_rfl)
def L7 (h:Heap) (I:Addr) (first:Value) (i:Nat) (a:Addr) (n ep:Nat):Prop:=h.get? I=some { cls:=.type "set_iterator",dict:=none,data:=.fields #[first,rawInt i,.ref a,rawInt n,rawInt ep],slots := #[] }
section
variable {prog:Program} {w:World} {A:Around} {E:Value->Shared->Prop} {s:Shared} {I a:Addr} {i n ep slot nx:Nat} {x:Value} {o:Obj} {es:Array (Int×Value)} {t:SetTable} {Q:Option Value->Shared->Prop}
theorem F3 (hit:L7 s.heap I (rawInt slot) i a n ep) (ho:s.heap.get? a=some o) (hd:o.data = .set es ep t) (hf:t.fits es.size=true) (hn:es.size=n)
  (hx:∀ (A':Around) (Q':Option (Value×Nat)->Shared->Prop) (E':Value->Shared->Prop),Q' (some (x,nx)) s->wpAny (model prog w) A' (setNext a slot i ep) Q' E' s)
  (h:∀ h',L7 h' I (rawInt nx) (i+1) a n ep->zBg I s.heap h'->Q (some x) { s with heap:=h' }):wpAny (model prog w) A (pyNext (.ref I)) Q E s:=by
 have ty:s.TypeIs (.ref I) "set_iterator" := ⟨_,hit,rfl⟩;unfold pyNext;refine zCu (wpAny_attempt (wpAny_callSpecial?_slot (name:=Str.ofString "__next__") ty slot_sin (wpAny_call_entry slot_sin ty La ?_ (Oa _))));unfold Builtin.«set_iterator.__next__»;refine zCu (m:=slotArgs "__next__" 0 _) (zCv (zCu (wpAny_fieldsOf hit rfl ?_)))
 dsimp only [rawInt]
 refine zCu (wpAny_setEntries_of ho hd hf ?_);rw[hn];rw[if_neg (by simp)];refine zCu (hx _ _ _ ?_)
 dsimp only
 refine zCu (wpAny_setField_rec hit (by simp) fun h1 e1 sb1=>?_);refine zCu (wpAny_setField_rec e1 (by simp) fun h2 e2 sb2=>?_);refine zCv ⟨_,rfl,zCv (h h2 ?_ (sb1.trans sb2))⟩;unfold L7;rw[e2];simp [rawInt]
end
theorem Ml {α:Type}:∀ {l:List α} {i:Nat} (h:i<l.length),(l[i]::l.eraseIdx i).Perm l
 | [],_,h=>absurd h (zBq _)
 | x::l,0,_=>List.Perm.refl _
 | x::l,i+1,h=>(List.Perm.swap x _ _).trans ((Ml (l:=l) (i:=i) (by simpa using h)).cons x)
theorem W7 {α:Type} (f:Nat->Nat):∀ (m k:Nat) (l:List α) (out:Array α),l.length=m->(pickOrder.go f m k l out).toList.Perm (out.toList++l)
 | 0,k,l,out,h=>by
  have e:l=[]:=List.length_eq_zero_iff.mp h;subst e;unfold pickOrder.go;rw[zAU]
 | m+1,k,l,out,h=>by
  have hl:f k%l.length<l.length:=Nat.mod_lt _ (by lia);unfold pickOrder.go;rw[zAe hl]
  dsimp only
  refine (W7 f m (k+1) _ _ (by rw[List.length_eraseIdx,if_pos hl]; lia)).trans ?_;rw[Array.toList_push,zBS];exact (Ml hl).append_left _
theorem Pg {α:Type} (f:Nat->Nat) (xs:Array α):(pickOrder f xs).toList.Perm xs.toList:=by
 unfold pickOrder;exact (W7 f xs.size 0 xs.toList #[] zAC).trans (by simp)
def Je (p:Array Nat) (i:Nat):Nat:=if i=0 then 0 else p.getD (i-1) 0+1
theorem Tx {p:Array Nat} (r:Rs p) {i:Nat} (hi:i<=p.size):SetTable.below p (Je p i)=i:=by
 have b:=Tk (j:=Je p i) r;unfold Je at b ⊢;by_cases c:i=0
 ·rw[if_pos c] at b ⊢
  rw[c];rcases Nat.eq_zero_or_pos (SetTable.below p 0) with z | z
  ·exact z
  ·have h0:0<p.size:=zAJ z b.le
   exact absurd (b.lo 0 h0 z) (zBq _)
 ·rw[if_neg c] at b ⊢
  have hp:i-1<p.size:=by lia
  have e:p.getD (i-1) 0=p[i-1]:=by simp [zCc,hp]
  rw[e] at b ⊢;rcases zBF (SetTable.below p (p[i-1]+1)) i with z | z | z
  ·have:=b.hi (i-1) hp (by lia)
   lia
  ·exact z
  ·have hs:i<p.size:=zAJ z b.le
   have h1:=b.lo i hs z;have h2:=V1 r (i:=i-1) (k:=i) (by lia) hs
   lia
section
variable {prog:Program} {w:World} {A:Around} {E:Value->Shared->Prop} {s:Shared} {a:Addr} {o:Obj} {es:Array (Int×Value)} {ep:Nat} {t:SetTable}
theorem Rf {Q:Bool->Shared->Prop} (h:Q (w.params.followText "set-order") s):wpAny (model prog w) A setsByText Q E s:=by
 unfold setsByText;exact zCu (wpAny_askSetting (zCv h))
theorem Wo {slot i:Nat} {Q:Option (Value×Nat)->Shared->Prop} (bt:w.params.followText "set-order" = true) (ho:s.heap.get? a=some o) (hd:o.data = .set es ep t) (hf:t.fits es.size=true)
  (h:Q (((pickOrder (w.params.setOrder a ep) es)[i]?).map fun e=>(e.2,slot)) s):wpAny (model prog w) A (setNext a slot i ep) Q E s:=by
 unfold setNext;refine zCu (wpAny_setState_of ho hd hf ?_)
 dsimp only
 refine zCu (Rf ?_);rw[bt,if_pos rfl,if_neg (by simp)];refine zCu ?_;unfold setWalk;refine zCu (wpAny_setState_of ho hd hf ?_)
 dsimp only
 refine zCu (Rf ?_);rw[bt,if_pos rfl];exact zCu (wpAny_askSetting (zCv (zCv h)))
theorem Sj {slot i:Nat} {Q:Option (Value×Nat)->Shared->Prop} (bt:w.params.followText "set-order" = false) (ho:s.heap.get? a=some o) (hd:o.data = .set es ep t) (hf:t.fits es.size=true) (hl:t.led=true) (hp:(!t.plain&&decide (es.size>1))=false)
  (h:Q (match es[SetTable.below t.place slot]?,t.place[SetTable.below t.place slot]? with
   | some (_,x),some j=>some (x,j+1)
   | _,_=>none) s):wpAny (model prog w) A (setNext a slot i ep) Q E s:=by
 unfold setNext;refine zCu (wpAny_setState_of ho hd hf ?_)
 dsimp only
 refine zCu (Rf ?_);rw[bt,if_neg zAm];show wpAny _ _ (if (!t.plain&&decide (es.size>1))=true then _ else _) _ _ _;rw[hp,if_neg zAm];refine zCu ?_;show wpAny _ _ (if (!t.led && !es.isEmpty)=true then unsupported "set:maker-not-led" else pure ()) _ _ _;rw[hl,if_neg (by simp)];exact zCv (zCv h)
theorem N1 {place:Nat} {k:Int} {x:Value} {Q:Value->Shared->Prop} (ho:s.heap.get? a=some o) (hd:o.data = .set es ep t) (hf:t.fits es.size=true) (hx:es[place]?=some (k,x)) (h:Q x s):wpAny (model prog w) A (setNextDrawn a place ep) Q E s:=by
 unfold setNextDrawn;refine zCu (wpAny_setState_of ho hd hf ?_)
 dsimp only
 rw[if_neg (by simp),hx];exact zCv h
theorem Q6 {src:Source} {n:Nat} {Q:Nat->Shared->Prop} (hn:n≠0) (h:∀ i,i<n->Q i { s with drawn:=s.drawn.bump src }):wpAny (model prog w) A (choose src n) Q E s:=fun _ _ _=>by
 unfold choose;rw[Sem.wp_choose];exact⟨hn,h _ (Nat.mod_lt _ (by lia))⟩
theorem Uf {α:Type}:∀ (n:Nat) (xs:List α) (s:Shared) (Q:List α->Shared->Prop),xs.length=n->(∀ ys d,ys.Perm xs->Q ys { s with drawn:=d })->wpAny (model prog w) A (drawOrder n xs) Q E s
 | 0,xs,s,Q,hl,h=>by
  have e:xs=[]:=List.length_eq_zero_iff.mp hl;subst e;unfold drawOrder;exact zCv (h [] s.drawn (List.Perm.refl _))
 | n+1,xs,s,Q,hl,h=>by
  cases xs with
  | nil=>simp at hl
  | cons x xs=>
   unfold drawOrder;refine zCu (Q6 (by simp) fun i hi=>?_);rw[zAe hi]
   dsimp only
   refine zCu (Uf n _ _ _ (by rw[List.length_eraseIdx,if_pos hi]; lia) fun ys d p=>zCv ?_);exact h _ d ((p.cons _).trans (Ml hi))
end
section
variable {prog:Program} {w:World} {A:Around} {E:Value->Shared->Prop} {s:Shared} {I a T:Addr} {i n ep slot:Nat} {o:Obj} {es:Array (Int×Value)} {t:SetTable} {Q:Option Value->Shared->Prop}
theorem BK {places:Array Value} {cn:Nat} {pl:Nat} {tk:Tok} {k:Int} {x:Value} (hit:L7 s.heap I (.ref T) i a n ep) (hT:s.heap.get? T=some { cls:=.type "tuple",dict:=none,data:=.seq places cn,slots := #[] }) (ho:s.heap.get? a=some o) (hd:o.data = .set es ep t) (hf:t.fits es.size=true) (hn:es.size=n)
  (hp:places[i]?=some (.int (pl:Int) tk)) (hx:es[pl]?=some (k,x))
  (h:∀ h',L7 h' I (.ref T) (i+1) a n ep->zBg I s.heap h'->Q (some x) { s with heap:=h' }):wpAny (model prog w) A (pyNext (.ref I)) Q E s:=by
 have ty:s.TypeIs (.ref I) "set_iterator" := ⟨_,hit,rfl⟩;unfold pyNext;refine zCu (wpAny_attempt (wpAny_callSpecial?_slot (name:=Str.ofString "__next__") ty slot_sin (wpAny_call_entry slot_sin ty La ?_ (Oa _))));unfold Builtin.«set_iterator.__next__»;refine zCu (m:=slotArgs "__next__" 0 _) (zCv (zCu (wpAny_fieldsOf hit rfl ?_)))
 dsimp only [rawInt]
 refine zCu (wpAny_setEntries_of ho hd hf ?_);rw[hn,if_neg (by simp)];refine zCu (wpAny_seqItems hT rfl ?_)
 dsimp only
 rw[show ((i:Int)).toNat=i from rfl,hp]
 dsimp only
 refine zCu (N1 ho hd hf (place:=pl) hx ?_);refine zCu (wpAny_setField_rec hit (by simp) fun h1 e1 sb1=>?_);refine zCv ⟨_,rfl,zCv (h h1 ?_ sb1)⟩;unfold L7;rw[e1];simp [rawInt]
theorem Tb {α:Type} {Q:α->Shared->Prop} (hh:A.handled=none) (h:∀ h' e,(∀ b o,s.heap.get? b=some o->h'.get? b=some o)->Shared.TypeIs { s with heap:=h' } e "StopIteration" -> E e { s with heap:=h' }):wpAny (model prog w) A (newExc (.type "StopIteration") [] >>= raiseNew) Q E s:=by
 refine zCu ?_;simp only [newExc,newTuple];refine zCu (wpAny_newObj_type ?_ (by size_fits));refine zCu (m:=firstArgMember _ _) (wpAny_of_eq (a:=Value.none) (by first | rfl | (simp only [firstArgMember]; rfl)) ?_);refine wpAny_newObj_type ?_ (by size_fits);refine wpAny_raiseNew_none hh (h _ _ (fun b ob e=>zAf _ (zAf _ e)) ⟨_,zAy _ rfl,rfl⟩)
theorem V3 (hh:A.handled=none) (hit:L7 s.heap I (rawInt slot) i a n ep) (ho:s.heap.get? a=some o) (hd:o.data = .set es ep t) (hf:t.fits es.size=true) (hn:es.size=n)
  (hx:∀ (A':Around) (Q':Option (Value×Nat)->Shared->Prop) (E':Value->Shared->Prop),Q' none s->wpAny (model prog w) A' (setNext a slot i ep) Q' E' s)
  (h:∀ h',Heap.ExtBut I s.heap h'->Q none { s with heap:=h' }):wpAny (model prog w) A (pyNext (.ref I)) Q E s:=by
 have ty:s.TypeIs (.ref I) "set_iterator" := ⟨_,hit,rfl⟩;unfold pyNext;refine zCu (wpAny_attempt (wpAny_callSpecial?_slot (name:=Str.ofString "__next__") ty slot_sin (wpAny_call_entry slot_sin ty La ?_ (Oa _))));unfold Builtin.«set_iterator.__next__»;refine zCu (m:=slotArgs "__next__" 0 _) (zCv (zCu (wpAny_fieldsOf hit rfl ?_)))
 dsimp only [rawInt]
 refine zCu (wpAny_setEntries_of ho hd hf ?_);rw[hn,if_neg (by simp)];refine zCu (hx _ _ _ ?_)
 dsimp only
 refine zCu (wpAny_setField_rec hit (by simp) fun h1 e1 sb1=>?_);refine Tb (s:={ s with heap:=h1 }) (by exact hh) fun h2 e k2 te=>?_
 dsimp only
 refine zCu (wpAny_isInstance (T := "StopIteration") (b:=true) te isSubtype_stop ?_);exact zCv (h h2 (fun b ob nb e'=>k2 b ob ((sb1.2 b nb).trans e')))
theorem GR {places:Array Value} {cn:Nat} (hh:A.handled=none) (hit:L7 s.heap I (.ref T) i a n ep) (hT:s.heap.get? T=some { cls:=.type "tuple",dict:=none,data:=.seq places cn,slots := #[] }) (ho:s.heap.get? a=some o) (hd:o.data = .set es ep t) (hf:t.fits es.size=true) (hn:es.size=n) (hp:places[i]?=none)
  (h:∀ h',Heap.ExtBut I s.heap h'->Q none { s with heap:=h' }):wpAny (model prog w) A (pyNext (.ref I)) Q E s:=by
 have ty:s.TypeIs (.ref I) "set_iterator" := ⟨_,hit,rfl⟩;unfold pyNext;refine zCu (wpAny_attempt (wpAny_callSpecial?_slot (name:=Str.ofString "__next__") ty slot_sin (wpAny_call_entry slot_sin ty La ?_ (Oa _))));unfold Builtin.«set_iterator.__next__»;refine zCu (m:=slotArgs "__next__" 0 _) (zCv (zCu (wpAny_fieldsOf hit rfl ?_)))
 dsimp only [rawInt]
 refine zCu (wpAny_setEntries_of ho hd hf ?_);rw[hn,if_neg (by simp)];refine zCu (wpAny_seqItems hT rfl ?_)
 dsimp only
 rw[show ((i:Int)).toNat=i from rfl,hp]
 dsimp only
 refine zCu (wpAny_setField_rec hit (by simp) fun h1 e1 sb1=>?_);refine zCu (wpAny_setField_rec e1 (by simp) fun h2 e2 sb2=>?_);refine Tb (s:={ s with heap:=h2 }) (by exact hh) fun h3 e k3 te=>?_
 dsimp only
 refine zCu (wpAny_isInstance (T := "StopIteration") (b:=true) te isSubtype_stop ?_);exact zCv (h h3 (fun b ob nb e'=>k3 b ob ((sb2.2 b nb).trans ((sb1.2 b nb).trans e'))))
theorem Za {first:Value} {Q:Value->Shared->Prop} (hit:L7 s.heap I first i a n ep) (h:Q (.ref I) s):wpAny (model prog w) A (pyIter (.ref I)) Q E s:=by
 have ty:s.TypeIs (.ref I) "set_iterator" := ⟨_,hit,rfl⟩;refine wpAny_pyIter_slot ty C2 (wpAny_call_entry C2 ty AG ?_ (EM _));unfold Builtin.«dict_keyiterator.__iter__»;exact zCu (m:=slotArgs "__iter__" 0 _) (zCv (zCv ⟨_,rfl, "set_iterator",_,ty,slot_sin.lookup,h⟩))
theorem E2:Slot "set" "__iter__" "set.__iter__" :=
 .of (owner := "set") (n := "__iter__") (by rw[typeLookup_type,builtinLookup_eq_fast]; kernel_rfl) (by decide +kernel) (by decide +kernel) (by decide +kernel) (by first | exact .inl (by decide +kernel) | exact .inr (by decide +kernel)) (by rw[isSubtype_type]; kernel_rfl)
theorem CI (a:Value):argsOk "set.__iter__" ⟨[a],[]⟩:=by unfold argsOk; kernel_rfl
def PF (w:World) (h0 h:Heap) (I a:Addr) (es:Array (Int×Value)) (ep:Nat) (t:SetTable):Prop:=
 (L7 h I (rawInt 0) 0 a es.size ep/\(w.params.followText "set-order" = true\/(w.params.followText "set-order" = false/\(!t.plain&&decide (es.size>1))=false))) \/
 ∃ T ps,L7 h I (.ref T) 0 a es.size ep/\h.get? T=some { cls:=.type "tuple",dict:=none,data:=.seq ((ps:List Nat).map fun i:Nat=>rawInt i).toArray 0,slots := #[] }/\ps.Perm (zAL es.size)/\T≠I/\h0.get? T=none
theorem BW {Q:Value->Shared->Prop} (hc:o.cls = .type "set") (ho:s.heap.get? a=some o) (hd:o.data = .set es ep t) (hf:t.fits es.size=true) (hz:es.size<=sizeLine)
  (h:∀ h' d I,PF w s.heap h' I a es ep t->(∀ b ob,s.heap.get? b=some ob->h'.get? b=some ob)->s.heap.get? I=none->Q (.ref I) { s with heap:=h',drawn:=d }):wpAny (model prog w) A (pyIter (.ref a)) Q E s:=by
 have ty:s.TypeIs (.ref a) "set" := ⟨_,ho,hc⟩;refine wpAny_pyIter_slot ty E2 (wpAny_call_entry E2 ty DW ?_ (CI _));unfold Builtin.«frozenset.__iter__»;refine zCu (m:=Builtin.Frozenset.slot0 "__iter__" _) (zCv ?_);refine zCu (zCu (wpAny_setEntries_of ho hd hf (zCv ?_)));refine zCu ?_;unfold setDrawn;refine zCu (wpAny_setState_of ho hd hf ?_)
 dsimp only
 refine zCu (Rf (zCv ?_));show wpAny _ _ (if (!(w.params.followText "set-order")&&(!t.plain&&decide (es.size>1)))=true then _ else _) _ _ _;have last:∀ (first:Value) (h1:Heap) (d1:Drawn),(∀ b ob,s.heap.get? b=some ob->h1.get? b=some ob)->s.heap.objs.size<=h1.objs.size->(∀ h2,(∀ b ob,h1.get? b=some ob->h2.get? b=some ob)->L7 h2 h1.objs.size first 0 a es.size ep->PF w s.heap h2 h1.objs.size a es ep t) ->
   wpAny (model prog w) A.in1 (do
    let x <- setEpoch a
    let y <- newFields "set_iterator" [first,rawInt 0,Value.ref a,rawInt ↑es.size,rawInt ↑x]
    ret y) (fun fin s'=>∃ v,fin = .done (.ret v)/\∃ T' r,s'.TypeIs v T'/\typeLookup (Value.type T') (Str.ofString "__next__")=pure (some r)/\Q v s') E { s with heap:=h1,drawn:=d1 }:=fun first h1 d1 k1 le bg=>by
  refine zCu ?_;unfold setEpoch;refine zCu (wpAny_setState_of (s:={ s with heap:=h1,drawn:=d1 }) (k1 _ _ ho) hd hf (zCv ?_));refine zCu (wpAny_newObj_type (zCv ⟨_,rfl, "set_iterator",_,⟨_,zAy _ rfl,rfl⟩,slot_sin.lookup,?_⟩));refine h _ d1 h1.objs.size (bg _ (fun b ob e=>zAf _ e) (zAy _ rfl)) (fun b ob e=>zAf _ (k1 b ob e)) ?_;cases z:s.heap.get? h1.objs.size with
  | none=>rfl
  | some ob=>
   have:=zAq z;exact absurd le (Nat.not_le.mpr this)
 by_cases c:(!(w.params.followText "set-order")&&(!t.plain&&decide (es.size>1)))=true
 ·rw[if_pos c]
  refine zCu (Uf _ _ _ _ zAN fun ps d p=>?_);refine zCu (wpAny_newTuple ?_ (by rw[zAb,p.length_eq,zAN]; exact hz));refine last _ _ d (fun b ob e=>zAf _ e) (by rw[zBy]; exact zBh _) fun h2 k2 it=>.inr ⟨s.heap.objs.size,ps,it,k2 _ _ (zAy _ rfl),p,?_,?_⟩
  ·show s.heap.objs.size≠(s.heap.push _).objs.size
   rw[zBy];exact zAu (zBz _)
  ·cases z:s.heap.get? s.heap.objs.size with
   | none=>rfl
   | some ob=>exact absurd (zAq z) (zBl _)
 ·rw[if_neg c]
  refine zCu (zCv ?_);have e:s={ s with heap:=s.heap,drawn:=s.drawn }:=by cases s; rfl
  rw[e];refine last _ s.heap s.drawn (fun _ _ z=>z) (zAl _) fun h2 k2 it=>.inl ⟨it,?_⟩;cases b:w.params.followText "set-order" with
  | true=>exact .inl rfl
  | false=>
   rw[b] at c;exact .inr ⟨rfl,by simpa using c⟩
end
section
variable {prog:Program} {w:World} {A:Around} {E:Value->Shared->Prop} {I a:Addr} {es:Array (Int×Value)} {ep:Nat} {t:SetTable}
def U8 (h:Heap) (a:Addr) (es:Array (Int×Value)) (ep:Nat) (t:SetTable):Prop:=∃ o,h.get? a=some o/\o.data = .set es ep t
theorem Ue (hf:t.fits es.size=true):t.place.size=es.size:=by
 unfold SetTable.fits at hf;simp at hf;exact hf.1
theorem M4 (es:Array (Int×Value)):(zAL es.size).map (fun p=>(es.getD p (0,.none)).2)=es.toList.map (·.2):=by
 refine List.ext_getElem? fun i=>?_;rw[zAs,zAs];by_cases h:i<es.size
 ·rw[List.getElem?_range h,zBj,zAY h]
  simp [zCc,h]
 ·rw[zBW (by simpa using h),zBj,zBQ (by lia)]
  rfl
theorem Md {s:Shared} {h':Heap} (sb:zBg I s.heap h'):Moved [I] (fun x y:Array GenState=>y=x) s { s with heap:=h' }:=⟨fun b o nb e=>(sb.2 b (fun z=>nb (by rw[z]; exact zAo.mpr rfl))).trans e,rfl,rfl,rfl,zAl _⟩
theorem Pa {s:Shared} {h':Heap} (sb:Heap.ExtBut I s.heap h'):Moved [I] (fun x y:Array GenState=>y=x) s { s with heap:=h' }:=⟨fun b o nb e=>sb b o (fun z=>nb (by rw[z]; exact zAo.mpr rfl)) e,rfl,rfl,rfl,zAl _⟩
theorem N8 (hh:A.handled=none) (bt:w.params.followText "set-order" = true) (hf:t.fits es.size=true) (na:a≠I) :
  WalksS prog w A I [I,a] [I] (fun x y=>y=x) es.size (fun i v=>(((pickOrder (w.params.setOrder a ep) es).toList.map (·.2))[i]?)=some v) (fun i s=>L7 s.heap I (rawInt 0) i a es.size ep/\U8 s.heap a es ep t) where
 sub:=fun b hb=>by rw[zAo.mp hb]; exact zAk
 grefl:=fun _=>rfl
 gtrans:=fun _ _ _ h1 h2=>h2.trans h1
 frame:=fun i s h' tk ⟨it,o,ho,hd⟩ _ k=>⟨k I zAk _ it,o,k a (by simp) _ ho,hd⟩
 item:=fun i s Q E hi ⟨it,o,ho,hd⟩ h=>by
  have sz:(pickOrder (w.params.setOrder a ep) es).size=es.size:=by rw[<- zAC,(Pg _ es).length_eq,zAC]
  have ei:(pickOrder (w.params.setOrder a ep) es)[i]?=some ((pickOrder (w.params.setOrder a ep) es)[i]'(by lia)):=zAY (by lia);refine F3 (slot:=0) (nx:=0) it ho hd hf rfl (fun A' Q' E' q=>Wo bt ho hd hf (by rw[ei]; exact q)) fun h' it' sb=>?_;refine h _ _ ?_ ⟨it',o,(sb.2 a na).trans ho,hd⟩ (Md sb);rw[zAs,zBj,ei];rfl
 done:=fun s Q E ⟨it,o,ho,hd⟩ h=>by
  have sz:(pickOrder (w.params.setOrder a ep) es).size=es.size:=by rw[<- zAC,(Pg _ es).length_eq,zAC]
  refine V3 (slot:=0) hh it ho hd hf rfl (fun A' Q' E' q=>Wo bt ho hd hf (by rw[zBQ (by lia)]; exact q)) fun h' sb=>h _ (Pa sb)
 self:=fun i s Q E ⟨it,_⟩ h=>Za it h
theorem C8 (hh:A.handled=none) (bt:w.params.followText "set-order" = false) (hf:t.fits es.size=true) (hl:t.led=true) (rs:Rs t.place) (hp:(!t.plain&&decide (es.size>1))=false) (na:a≠I) :
  WalksS prog w A I [I,a] [I] (fun x y=>y=x) es.size (fun i v=>((es.toList.map (·.2))[i]?)=some v) (fun i s=>L7 s.heap I (rawInt (Je t.place i)) i a es.size ep/\U8 s.heap a es ep t) where
 sub:=fun b hb=>by rw[zAo.mp hb]; exact zAk
 grefl:=fun _=>rfl
 gtrans:=fun _ _ _ h1 h2=>h2.trans h1
 frame:=fun i s h' tk ⟨it,o,ho,hd⟩ _ k=>⟨k I zAk _ it,o,k a (by simp) _ ho,hd⟩
 item:=fun i s Q E hi ⟨it,o,ho,hd⟩ h=>by
  have sz:=Ue hf;have bl:=Tx rs (i:=i) (by lia);have ei:es[i]?=some (es[i]'hi):=zAY hi;have pi:t.place[i]?=some (t.place[i]'(by lia)):=zAY (by lia);have en:Je t.place (i+1)=t.place[i]'(by lia)+1:=by
   unfold Je;rw[if_neg (by lia),Nat.add_sub_cancel];simp [zCc,show i<t.place.size by lia]
  refine F3 (slot:=Je t.place i) (nx:=Je t.place (i+1)) it ho hd hf rfl (fun A' Q' E' q=>Sj bt ho hd hf hl hp (by rw[bl,ei,pi]; dsimp only; rw[<- en]; exact q)) fun h' it' sb=>?_;refine h _ _ ?_ ⟨it',o,(sb.2 a na).trans ho,hd⟩ (Md sb);rw[zAs,zBj,ei];rfl
 done:=fun s Q E ⟨it,o,ho,hd⟩ h=>by
  have sz:=Ue hf;have bl:=Tx rs (i:=es.size) (by lia);refine V3 (slot:=Je t.place es.size) hh it ho hd hf rfl (fun A' Q' E' q=>Sj bt ho hd hf hl hp (by rw[bl,zBQ (zAl _)]; exact q)) fun h' sb=>h _ (Pa sb)
 self:=fun i s Q E ⟨it,_⟩ h=>Za it h
theorem A0 {T:Addr} {ps:List Nat} (hh:A.handled=none) (hf:t.fits es.size=true) (pm:ps.Perm (zAL es.size)) (na:a≠I) (nT:T≠I) :
  WalksS prog w A I [I,a,T] [I] (fun x y=>y=x) es.size (fun i v=>((ps.map fun p=>(es.getD p (0,.none)).2)[i]?)=some v)
   (fun i s=>L7 s.heap I (.ref T) i a es.size ep/\U8 s.heap a es ep t/\s.heap.get? T=some { cls:=.type "tuple",dict:=none,data:=.seq (ps.map fun i:Nat=>rawInt i).toArray 0,slots := #[] }) where
 sub:=fun b hb=>by rw[zAo.mp hb]; exact zAk
 grefl:=fun _=>rfl
 gtrans:=fun _ _ _ h1 h2=>h2.trans h1
 frame:=fun i s h' tk ⟨it,⟨o,ho,hd⟩,hT⟩ _ k=>⟨k I zAk _ it,⟨o,k a (by simp) _ ho,hd⟩,k T (by simp) _ hT⟩
 item:=fun i s Q E hi ⟨it,⟨o,ho,hd⟩,hT⟩ h=>by
  have ln:ps.length=es.size:=by rw[pm.length_eq,zAN]
  have ei:ps[i]?=some (ps[i]'(by lia)):=zAe (by lia);have pl:ps[i]'(by lia)<es.size:=zBu.mp (pm.mem_iff.mp (zBb _));have ex:es[ps[i]'(by lia)]?=some (es[ps[i]'(by lia)]'pl):=zAY pl;refine BK (pl:=ps[i]'(by lia)) (k:=(es[ps[i]'(by lia)]'pl).1) (x:=(es[ps[i]'(by lia)]'pl).2) it hT ho hd hf rfl (tk:=0) ?_ ex fun h' it' sb=>?_
  ·rw[zBX,zAs,ei]
   rfl
  ·refine h _ _ ?_ ⟨it',⟨o,(sb.2 a na).trans ho,hd⟩,(sb.2 T nT).trans hT⟩ (Md sb)
   rw[zAs,ei];simp [zCc,pl]
 done:=fun s Q E ⟨it,⟨o,ho,hd⟩,hT⟩ h=>by
  have ln:ps.length=es.size:=by rw[pm.length_eq,zAN]
  refine GR hh it hT ho hd hf rfl ?_ fun h' sb=>h _ (Pa sb);rw[zBX,zAs,zBW (by lia)];rfl
 self:=fun i s Q E ⟨it,_⟩ h=>Za it h
theorem BA (hh:A.handled=none) {h0 h:Heap} (hs:U8 h a es ep t) (hf:t.fits es.size=true) (g:Lm (w.params.followText "set-order") t) (na:a≠I) (nI:h0.get? I=none) (b:PF w h0 h I a es ep t) :
  ∃ (os:List Value) (fp:List Addr) (St:Nat->Shared->Prop),os.Perm (es.toList.map (·.2))/\WalksS prog w A I fp [I] (fun x y=>y=x) es.size (fun i v=>os[i]?=some v) St/\(∀ s:Shared,s.heap=h->St 0 s)/\∀ x∈fp,x=a\/h0.get? x=none:=by
 rcases b with ⟨it,bt | ⟨bt,hp⟩⟩ | ⟨T,ps,it,hT,pm,nT,nT0⟩
 ·refine⟨_,_,_,(Pg (w.params.setOrder a ep) es).map _,N8 hh bt hf na,fun s e=>by rw[e]; exact⟨it,hs⟩,fun x hx=>?_⟩
  rcases zAn.mp hx with z | z
  ·rw[z]; exact .inr nI
  ·exact .inl (zAo.mp z)
 ·refine⟨_,_,_,List.Perm.refl _,C8 hh bt hf (g.ld bt) g.rs hp na,fun s e=>by rw[e]; exact⟨it,hs⟩,fun x hx=>?_⟩
  rcases zAn.mp hx with z | z
  ·rw[z]; exact .inr nI
  ·exact .inl (zAo.mp z)
 ·refine⟨_,_,_,(pm.map _).trans (List.Perm.of_eq (M4 es)),A0 hh hf pm na nT,fun s e=>by rw[e]; exact⟨it,hs,hT⟩,fun x hx=>?_⟩
  rcases zAn.mp hx with z | z
  ·rw[z]; exact .inr nI
  ·rcases zAn.mp z with z | z
   ·exact .inl z
   ·rw[zAo.mp z]; exact .inr nT0
end
section
variable {prog:Program} {w:World} {A:Around} {E:Value->Shared->Prop} {s:Shared} {a:Addr} {o:Obj} {es:Array (Int×Value)} {ep:Nat} {t:SetTable}
theorem HN:typeLookup (.type "set") (Str.ofString "__len__")=pure (some (.builtin "set.__len__")):=F.slot_set_len.lookup
theorem KK:isSubtype (.type "set") (.type "set")=pure true:=by rw[isSubtype_type]; kernel_rfl
theorem CA {Q:Bool->Shared->Prop} (ty:s.TypeIs (.ref a) "set") (h:Q false s):wpAny (model prog w) A (Builtin.List.listLengthHint (.ref a)) Q E s:=by
 unfold Builtin.List.listLengthHint;refine zCu (wpAny_specialOf ty HN ?_);generalize hid:("set.__len__" : String)=id0
 wp_delta
 rw[show splitId id0=some ("set", "__len__") from by subst hid; decide +kernel];subst hid;refine zCu (wpAny_isInstance ty KK ?_);show wpAny _ A (typeOf (Value.ref a) >>= _) _ _ _;refine zCu (wpAny_typeOf ty ?_);exact zCv h
theorem B5 {Q:List Value->Shared->Prop} (hh:A.handled=none) (hc:o.cls = .type "set") (ho:s.heap.get? a=some o) (hd:o.data = .set es ep t) (hf:t.fits es.size=true) (g:Lm (w.params.followText "set-order") t) (hz:es.size<=sizeLine)
  (h:∀ s' vs,vs.Perm (es.toList.map (·.2))->(∀ b ob,s.heap.get? b=some ob->s'.heap.get? b=some ob)->s'.gens=s.gens->s'.os=s.os->Q vs s'):wpAny (model prog w) A (collect (.ref a)) Q E s:=by
 unfold collect;refine zCu (wpAny_runValue (codeAny_builtin F.entry_proto_collect ?_));rw[Around.under_plainId F.plain_proto_collect _];show wpAny _ A.in1 (newList [] >>= fun l=>again (.builtin "list.__iadd__" ⟨[l,.ref a],[]⟩)) _ _ s;refine zCu (wpAny_newObj_type (zCv ⟨plainId_quiet F.plain_list_iadd _,codeAny_builtin F.entry_list_iadd ?_⟩));rw[Around.under_plainId F.plain_list_iadd _];have lt:a<s.heap.objs.size:=zAq ho;have old:∀ b ob,s.heap.get? b=some ob->(s.heap.push { cls:=.type "list",data:=.seq ([]:List Value).toArray }).get? b=some ob:=fun b ob e=>zAf _ e;have at0:(s.heap.push { cls:=.type "list",data:=.seq ([]:List Value).toArray }).get? s.heap.objs.size=some { cls:=.type "list",data:=.seq ([]:List Value).toArray }:=zAy _ rfl;generalize hL:s.heap.objs.size=L at at0;generalize s.heap.push { cls:=.type "list",data:=.seq ([]:List Value).toArray }=H at old at0;have nL:s.heap.get? L=none:=by
  cases z:s.heap.get? L with
  | none=>rfl
  | some ob=>exact absurd (zAq z) (by rw[hL]; exact zBl _)
 show wpAny _ A.in1 (Builtin.List.listExtendWith (.ref L) (.ref a) (.ref L)) _ _ { s with heap:=H };unfold Builtin.List.listExtendWith;have ty:Shared.TypeIs { s with heap:=H } (.ref a) "set" := ⟨_,old _ _ ho,hc⟩;refine zCu (wpAny_typeOf ty ?_);have c1:Builtin.List.listSameRef (.ref L) (.ref a)=false:=by
  have:L≠a:=by rw[<- hL]; exact zBs lt
  simp [Builtin.List.listSameRef,this]
 rw[if_neg (by rw[c1]; decide)];refine zCu (BW (s:={ s with heap:=H }) hc (old _ _ ho) hd hf hz fun h1 d I bg k1 nI=>?_);have ty1:Shared.TypeIs { s with heap:=h1,drawn:=d } (.ref a) "set" := ⟨_,k1 _ _ (old _ _ ho),hc⟩;refine zCu (wpAny_holding (CA ty1 ?_));show wpAny _ A.in1 (rule "list.extend.makes-room" >>= fun _=>Builtin.List.listTouch (.ref L) >>= fun _=>again (.builtin "list.extend.loop" ⟨[.ref L,.ref I,.ref L],[]⟩)) _ _ _;refine zCu (wpAny_rule (zCu ?_));show wpAny _ A.in1 (updateSeq L (·.push .none) >>= fun _=>updateSeq L (·.pop)) _ _ _;have at1:=k1 _ _ at0;refine zCu (wpAny_updateSeq (s:={ s with heap:=h1,drawn:=d }) at1 rfl ?_);have at2:=zBV (Obj.mapSeq (·.push Value.none)) at1 rfl;refine wpAny_updateSeq at2 rfl ?_;have at3:=zBV (Obj.mapSeq (·.pop)) at2 rfl;have oth:∀ b ob,b≠L->h1.get? b=some ob->((h1.update L (Obj.mapSeq (·.push Value.none))).update L (Obj.mapSeq (·.pop))).get? b=some ob:=fun b ob nb e=>
  (zBP _ _ (Ne.symm nb)).trans ((zBP _ _ (Ne.symm nb)).trans e)
 have naI:a≠I:=fun z=>by
  rw[<- z] at nI;have:=old _ _ ho;have nI':H.get? a=none:=nI;rw[this] at nI';cases nI'
 have nLI:L≠I:=fun z=>by
  rw[<- z] at nI;have nI':H.get? L=none:=nI;rw[at0] at nI';cases nI'
 obtain⟨vs,fp,St,pm,W,st0,inf⟩:=BA (prog:=prog) (A:=A.in1.in1) (by exact hh) (h:=h1) ⟨o,k1 _ _ (old _ _ ho),hd⟩ hf g naI nI bg;have nf:L∉fp:=fun z=>by
  rcases inf L z with e | e
  ·exact absurd e (by rw[<- hL]; exact zBs lt)
  ·have e':H.get? L=none:=e
   rw[at0] at e';cases e'
 have st1:=W.frame 0 { s with heap:=h1,drawn:=d } _ s.toks (st0 _ rfl) (zAl _) fun b hb ob e=>oth b ob (fun z=>nf (z▸hb)) e;refine zCv ⟨plainId_quiet F.plain_extend_loop _,codeAny_extend_loopS W.of_in1 hz L nf _ es.size 0 _ _ _ rfl (zAA _) st1 at3 (ItemsOf.nil _) fun s' acc c' hm hS' hacc=>?_⟩;show wpAny _ A (load L >>= _) _ _ s';refine zCu (wpAny_load hS' (zCv ?_));have ea:acc.toList=vs:=by
  obtain⟨z1,z2⟩:=hacc;have lv:vs.length=es.size:=by rw[pm.length_eq,zAb,zAC]
  refine List.ext_getElem? fun j=>?_;rw[zBj];by_cases hj:j<acc.size
  ·rw[zAY hj]
   exact (z2 j _ (zAY hj)).symm
  ·rw[zBQ (by omega),zBW (by omega)]
 rw[ea];refine h s' vs pm (fun b ob e=>hm.heap b ob (fun z=>?_) (oth b ob (fun z=>?_) (k1 b ob (old b ob e)))) hm.gens hm.os
 ·rcases zAn.mp z with z | z
  ·rw[z,nL] at e
   cases e
  ·rw[zAo.mp z] at e
   have e':=old _ _ e;have nI':H.get? I=none:=nI;rw[e'] at nI';cases nI'
 ·rw[z,nL] at e
  cases e
end
section
variable {prog:Program} {w:World} {A:Around} {E:Value->Shared->Prop} {s:Shared}
theorem X1 {x:Value} {Q:Value->Shared->Prop} (h:Q (.ref s.heap.objs.size) { s with heap:=s.heap.push { cls:=.type "set",dict:=none,data:=.set #[] 0 (.fresh 0 0 (!w.params.followText "set-order")) } }) :
  codeAny (model prog w) A (.call (.builtin "set.__new__") ⟨[.type "set",x],[]⟩) (wants Q E) s:=by
 refine codeAny_of_tree ?_;show wpAny _ A.in1 (do checkBuiltinCall "set.__new__" ⟨[.type "set",x],[]⟩; again (.builtin "set.__new__" ⟨[.type "set",x],[]⟩)) _ _ s;refine zCu (wpAny_of_eq (F.newCall_set_1 x) (zCv ⟨plainId_quiet F.plain_set_new _,codeAny_builtin F.entry_set_new ?_⟩));rw[Around.under_plainId F.plain_set_new _];unfold Builtin.«set.__new__» Builtin.Frozenset.newClass;have hsub:=sub_set_self;obtain⟨hp,gn,d,tk,os⟩:=s
 dsimp only
 wp_walk
 refine wpAny_askSetting (zCv ?_)
 dsimp only
 simp only [newObj];exact zCu (wpAny_alloc (zCv (zCv h)))
variable {R:Result->Shared->Prop} {I:Addr} {fp wr:List Addr} {G:Array GenState->Array GenState->Prop} {n:Nat} {P:Nat->Value->Prop} {St:Nat->Shared->Prop}
theorem GSet.keep {h h':Heap} {a:Addr} {ks:List Int} (g:GSet (intKind prog w) h a ks) (k:∀ o,h.get? a=some o->h'.get? a=some o):GSet (intKind prog w) h' a ks:=by
 obtain⟨o,es,ep,t,ho,r⟩:=g;exact⟨o,es,ep,t,k o ho,r⟩
theorem B0 (W:WalksS prog w A.in1 I fp wr G n P St) (S:Addr) (nS:S∉fp) (val:Nat->Int) (hv:∀ i v,P i v->∃ t,v = .int (val i) t) (hb:n+1<scanBound) :
  ∀ (k i:Nat) (s:Shared) (ks:List Int),n-i=k->i<=n->St i s->GSet (intKind prog w) s.heap S ks->(∀ y,y∈ks↔∃ j,j<i/\val j=y)->ks.length<=i ->
   (∀ s' ks',Moved (S::wr) G s s'->GSet (intKind prog w) s'.heap S ks'->(∀ y,y∈ks'↔∃ j,j<n/\val j=y)->ks'.length<=n->R (.ok (.ret .none)) s') ->
   codeAny (model prog w) A (.builtin "set.update.loop" ⟨[.ref S,.ref I],[]⟩) R s:=by
 have nw:S∉wr:=fun z=>nS (W.sub _ z);have sub:∀ b∈wr,b∈S::wr:=fun b hb=>zAd _ hb;intro k
 induction k with
 | zero=>
  intro i s ks hk hi st g mem len fin;have e:i=n:=by lia
  subst e;refine codeAny_builtin PyProof.Rows.F.entry_set_update_loop ?_;rw[Around.under_plainId PyProof.Rows.F.plain_set_update_loop _];show wpAny _ A.in1 (pyNext (.ref I) >>= _) _ _ s;refine zCu (W.done s _ _ st fun s' hm=>?_);show wpAny _ A.in1 (ret Value.none) _ _ s';exact zCv (fin s' ks (hm.mono sub) (g.keep fun o e=>hm.heap S o nw e) mem len)
 | succ k ih=>
  intro i s ks hk hi st g mem len fin;refine codeAny_builtin PyProof.Rows.F.entry_set_update_loop ?_;rw[Around.under_plainId PyProof.Rows.F.plain_set_update_loop _];show wpAny _ A.in1 (pyNext (.ref I) >>= _) _ _ s;refine zCu (W.item i s _ _ (by lia) st fun v s' hP st' hm=>?_);obtain⟨tk,rfl⟩:=hv i v hP;have g':=g.keep fun o e=>hm.heap S o nw e;show wpAny _ A.in1 (holding [Value.int (val i) tk] (setAdd S (.int (val i) tk)) >>= _) _ _ s';refine zCu (wpAny_holding ?_);unfold setAdd;refine wpAny_holding (zCu ((intKind prog w).pyHash (k:=val i) (intKind_is _ _ _ _) ?_));refine IF (knd:=intKind prog w) (s:={ s' with toks:=s'.toks+1 }) (intKind_is _ _ _ _) rfl g' (by lia) fun b h' ks' sb g2 pm=>?_;have len':ks'.length<=i+1:=by
   rw[pm.length_eq]
   split
   ·lia
   ·rw[zAi,List.length_singleton]; lia
  have mem':∀ y,y∈ks'↔∃ j,j<i+1/\val j=y:=fun y=>by
   rw[pm.mem_iff];constructor
   ·intro hy
    split at hy
    ·obtain⟨j,h1,h2⟩:=(mem y).mp hy
     exact⟨j,by lia,h2⟩
    ·rcases zAz.mp hy with z | z
     ·obtain⟨j,h1,h2⟩:=(mem y).mp z
      exact⟨j,by lia,h2⟩
     ·exact⟨i,by lia,(zAo.mp z).symm⟩
   ·rintro ⟨j,h1,h2⟩
    have old:∀ {z},z∈ks->z∈(if val i∈ks then ks else ks++[val i]):=fun {z} hz=>by
     split
     ·exact hz
     ·exact zBY _ hz
    by_cases c:j<i
    ·exact old ((mem y).mpr ⟨j,c,h2⟩)
    ·have e:j=i:=by lia
     subst e
     split
     ·rw[<- h2]; assumption
     ·rw[<- h2]; exact zAO _ (zAo.mpr rfl)
  refine zCv ⟨plainId_quiet PyProof.Rows.F.plain_set_update_loop _,ih (i+1) _ ks' (by lia) (by lia) (W.frame _ s' _ _ st' (zBh _) fun b hb o e=>?_) g2 mem' len' fun s2 ks2 hm2 g3 m3 l3=>?_⟩
  ·rw[sb.2 b (fun z:b=S=>nS (by rw[<- z]; exact hb))]; exact e
  ·refine fin s2 ks2 (Moved.trans W.gtrans ((hm.mono sub).then_heap (zBh _) fun b o hb e=>?_) hm2) g3 m3 l3
   rw[sb.2 b (fun z:b=S=>hb (by rw[z]; exact zAk))]; exact e
end
section
variable {prog:Program} {w:World} {A:Around} {E:Value->Shared->Prop} {s:Shared}
abbrev Ie (w:World):Obj:={ cls:=.type "set",dict:=none,data:=.set #[] 0 (.fresh 0 0 (!w.params.followText "set-order")) }
theorem CF {h:Heap} {a:Addr} (ho:h.get? a=some (Ie w)):GSet (intKind prog w) h a []:=by
 refine⟨_,#[],0,_,ho,⟨rfl,rfl,rfl⟩,rfl,.nil,List.nodup_nil,by decide,rfl,?_⟩;exact Se (w.params.followText "set-order")
theorem set_of_list {l:Addr} {items:Array Value} {ns:List Int} {Q:Value->Shared->Prop} (hh:A.handled=none) (hl:s.heap.IsList l items) (hi:PyProof.Rows.IntsAre items.toList ns) (hb:items.size+1<scanBound)
  (h:∀ (h':Heap) (tk:Nat) (ks:List Int),GSet (intKind prog w) h' s.heap.objs.size ks->(∀ y,y∈ks↔y∈ns)->ks.length<=items.size->(∀ b o,s.heap.get? b=some o->h'.get? b=some o)->Q (.ref s.heap.objs.size) { s with heap:=h',toks:=tk }) :
  wpAny (model prog w) A (call (.type "set") [.ref l]) Q E s:=by
 obtain⟨c,tl,hmro⟩:=F.called_set.mro;have hmade:=F.called_set.made;have hsub:=F.called_set.sub;have h1:=F.called_set.notType;have h2:=F.called_set.canCreate;have hct:=F.typeCall_set_1 (.ref l);refine wpAny_call (codeAny_of_tree (show wpAny _ _ (callAny (.type "set") _) _ _ _ from ?_));refine zCv ⟨Code.quiet_builtin _ (by decide +kernel),codeAny_builtin F.entry_type_call ?_⟩;rw[Around.under_plain (weight_type_call_type "set" [.ref l] []) rfl]
 repeat (any_goals (first | assumption | wp_step))
 refine codeAny_mono (X1 (x:=.ref l) (E:=E) (Q:=fun v s₁ => v = .ref s.heap.objs.size/\s₁ = { s with heap:=s.heap.push (Ie w) }) ⟨rfl,rfl⟩) fun r s₁ hr=>?_;cases r with
 | error e=>exact hr
 | ok fl=>
  cases fl with
  | ret obj=>
   obtain⟨rfl,rfl⟩:=hr;have at0:(s.heap.push (Ie w)).get? s.heap.objs.size=some (Ie w):=zAy _ rfl;have hT:Shared.TypeIs { s with heap:=s.heap.push (Ie w) } (.ref s.heap.objs.size) "set" := ⟨_,at0,rfl⟩;have hli:=F.called_set.init.lookup;have hbi:=F.called_set.init.bind (.ref s.heap.objs.size)
   repeat (any_goals (first | assumption | wp_step))
   refine codeAny_mono (codeAny_call_builtin (R:=wants (fun r s₂ => r = .none/\∃ h' tk ks,s₂ = { s with heap:=h',toks:=tk }/\GSet (intKind prog w) h' s.heap.objs.size ks/\(∀ y,y∈ks↔y∈ns)/\ks.length<=items.size/\(∀ b o,s.heap.get? b=some o->h'.get? b=some o)) E)
    F.called_set.init.plain F.entry_set_init (check_set_init_1 hT ?_)) fun r₂ s₂ hr₂ => ?_
   ·obtain⟨⟨oc,od,odt,osl⟩,hol,hcl,nl,hdl⟩:=id hl
    simp only at hcl hdl;subst hcl hdl;have old:(s.heap.push (Ie w)).get? l=some { cls:=.type "list",dict:=od,data:=.seq items nl,slots:=osl }:=zAf _ hol;have il:(s.heap.push (Ie w)).IsList l items:=⟨_,old,rfl,nl,rfl⟩;have lt:l<s.heap.objs.size:=zAq hol;have u1:=F.sub_list_set;have u2:=F.sub_list_frozenset;have u3:(Value.type "list" == Value.type "dict")=false:=by decide
    unfold Builtin.«set.__init__» noKeywords Builtin.Frozenset.updateFrom;generalize hPI:pyIter=PI
    wp_walk
    subst hPI;refine wpAny_pyIter_list il (zCu (wpAny_runValue ?_));have sz:(s.heap.push (Ie w)).objs.size=s.heap.objs.size+1:=zBy ..;have ne:l≠(s.heap.push (Ie w)).objs.size:=by rw[sz]; exact zAu (zBx lt)
    have h3:A.in1.in1.in1.handled=none:=by simp [hh]
    have nf:s.heap.objs.size∉[(s.heap.push (Ie w)).objs.size,l]:=by
     rw[sz];intro z;rcases zAn.mp z with z | z
     ·exact absurd z (zAu (zBz _))
     ·exact absurd (zAo.mp z) (zBs lt)
    have hv:∀ (i:Nat) (v:Value),items[i]?=some v->∃ t,v = .int ((fun i=>ns.getD i 0) i) t:=fun i v e=>PyProof.Rows.IntsAre.int_at hi i v (by rw[zBj]; exact e);have ln:items.size=ns.length:=by rw[<- zAC]; exact hi.length
    refine B0 ((Walks.list h3 _ l ne items).toS) s.heap.objs.size nf (fun i=>ns.getD i 0) hv hb (items.size-0) 0 _ [] (by lia) (zAA _) ⟨⟨_,zAy _ rfl,rfl,rfl⟩,il.push _⟩ (CF (zAf _ at0)) (fun y=>⟨fun z=>(nomatch z),fun ⟨j,z,_⟩=>absurd z (zBq _)⟩) (zAA _) fun s' ks hm g m ln'=>?_;obtain⟨h',g',d',tk',os'⟩:=s';have eg:g'=s.gens:=hm.gens;have ed:d'=s.drawn:=hm.drawn;have eo:os'=s.os:=hm.os;subst eg ed eo;refine zCv (zCv ⟨rfl,h',tk',ks,rfl,g,fun y=>?_,ln',fun b o e=>?_⟩)
    ·rw[m y]
     constructor
     ·rintro ⟨j,z1,z2⟩
      rw[<- z2];show ns.getD j 0∈ns;rw[zAr,zAe (by lia)];exact zBb _
     ·intro z
      obtain⟨j,hj,e⟩:=zAX z;refine⟨j,by lia,?_⟩;show ns.getD j 0=y;rw[zAr,zAe hj];exact e
    ·refine hm.heap b o (fun z=>?_) (zAf _ (zAf _ e))
     have lb:=zAq e;rcases zAn.mp z with z | z
     ·exact absurd z (zAu lb)
     ·exact absurd (zAo.mp z) (by rw[sz]; exact zAu (zBx lb))
   ·cases r₂ with
    | error e=>exact hr₂
    | ok fl₂ =>
     cases fl₂ with
     | ret r=>
      obtain⟨rfl,h',tk,ks,rfl,g,m,ln,k⟩:=hr₂
      repeat (any_goals (first | assumption | wp_step))
      exact h _ _ ks g m ln k
     | _=>exact hr₂.elim
  | _=>exact hr.elim
end
end CST
namespace CST
open PySem PyProof.Rows
section
variable {prog:Program} {w:World} {A:Around} {E:Value->Shared->Prop} {s:Shared}
theorem Py:∀ {l:List (Int×Value)} {ks:List Int},Paired (JR (intKind prog w)) l ks->IntsAre (l.map (·.2)) ks
 | _,_,.nil=>.nil
 | e::l,k::ks,.cons r t=>by
  obtain⟨tk,h⟩:=Value.isInt_shape r.1;rw[zAK,h];exact .cons k tk (Py t)
theorem BD:∀ {vs us:List Value},vs.Perm us->∀ {ns:List Int},IntsAre us ns->∃ ms:List Int,IntsAre vs ms/\ms.Perm ns:=by
 intro vs us p;have q:=p.symm;clear p
 induction q with
 | nil=>intro ns h; exact⟨ns,h,List.Perm.refl _⟩
 | cons x _ ih=>
  intro ns h;cases h with
  | cons n t r=>
   obtain⟨ms,h1,h2⟩:=ih r;exact⟨n::ms,.cons n t h1,h2.cons n⟩
 | swap x y l=>
  intro ns h;cases h with
  | cons n t r=>
   cases r with
   | cons m u r2=>exact⟨_,.cons m u (.cons n t r2),List.Perm.swap _ _ _⟩
 | trans _ _ ih1 ih2=>
  intro ns h;obtain⟨m1,h1,p1⟩:=ih1 h;obtain⟨m2,h2,p2⟩:=ih2 h1;exact⟨m2,h2,p2.trans p1⟩
theorem sorted_set {a:Addr} {ks:List Int} {Q:Value->Shared->Prop} (hh:A.handled=none) (g:GSet (intKind prog w) s.heap a ks) (h64:ks.length<64)
  (h:∀ (s':Shared) (l:Addr) (out:Array Value) (ms:List Int) (e:Nat),IntsAre out.toList ms->ms.Perm ks->ms.Pairwise (· <= ·)->(∀ b o,s.heap.get? b=some o->s'.heap.get? b=some o)->a<l->s'.heap.get? l=some (seqObj "list" out e)->s'.gens=s.gens->s'.os=s.os->Q (.ref l) s') :
  wpAny (model prog w) A (call (.builtin "sorted") [.ref a]) Q E s:=by
 obtain⟨o,es,ep,t,ho,hex,hd,hp,nd,hb,hf,gd⟩:=g;have lk:es.size=ks.length:=by rw[<- zAC]; exact Paired.length hp
 have line:es.size<=sizeLine:=by rw[zCw]; lia
 refine Calls.call_function_entry kind_sorted plain_sorted entry_sorted (args_sorted1 _) ?_;unfold Builtin.«sorted»;refine zCu (m:=checkCount "sorted" 1 1 _) (zCv (zCu (B5 (by exact hh) hex.1 ho hd hf gd line fun s' vs pm k eg eo=>?_)));have lv:vs.length=ks.length:=by rw[pm.length_eq,zAb,zAC,lk]
 obtain⟨ms,im,mp⟩:=BD pm (Py hp);refine zCu (wpAny_newList ?_ (by rw[lv,<- lk]; exact line));have at1:(s'.heap.push (seqObj "list" vs.toArray 0)).get? s'.heap.objs.size=some (seqObj "list" vs.toArray 0):=zAy _ rfl;refine zCu (wpAny_holding (wpAny_call_entry slot_list_sort ⟨_,at1,rfl⟩ entry_list_sort (list_sort_tree (s:={ s' with heap:=s'.heap.push (seqObj "list" vs.toArray 0) }) at1 im (by lia) fun out ns' a1 a2 a3=>⟨_,rfl,?_⟩) (args_list_sort _)));refine zCv ⟨_,rfl,?_⟩;obtain⟨e,he⟩:=sortedHeap_at (out:=out) at1;have lt:∀ b ob,s.heap.get? b=some ob->b<s'.heap.objs.size:=fun b ob z=>zAq (k b ob z);refine h _ s'.heap.objs.size out ns' e a1 (a2.trans mp) a3 (fun b ob z=>?_) ?_ he eg eo
 ·show (sortedHeap _ _ _ _).get? b=_
  rw[sortedHeap_old (zAu (lt b ob z)) (by rw[size_push']; exact zBx (lt b ob z))];exact zAf _ (k b ob z)
 ·exact lt a o ho
end
end CST
namespace L2
open PySem PySem.Spec PyProof.Rows PySem.W
theorem Vy:∀ {us:List Value} {ns:List Int},IntsAre us ns->Vals (ns.map V.int) us
 | _,_,.nil=>.nil
 | _,_,.cons n t r=>.cons ⟨t,rfl⟩ (Vy r)
section
variable {X:Cx}
def CK (K:zAa) (te:TE):TE:=fun σ H Q=>te σ H fun x H1=>∃ (a:Addr) (ns:List Int),x = .ref a/\SqL K H1 a (ns.map V.int)/\ns.length<64 /\
 ∀ (l:Addr) (ms:List Int),H1 l=none->ms.Pairwise (· < ·)->(∀ y,y∈ms↔y∈ns)->Q (.ref l) (upd H1 l (.lst (ms.map V.int)))
theorem Qb:∀ {ms:List Int},ms.Pairwise (· <= ·)->ms.Nodup->ms.Pairwise (· < ·)
 | [],_,_=>.nil
 | x::ms,h,n=>by
  rw[zAS] at h;rw[zAW] at n;rw[zAS];refine⟨fun y hy=>?_,Qb h.2 n.2⟩;have:=h.1 y hy;have ne:x≠y:=fun z=>n.1 (by rw[z]; exact hy)
  lia
theorem O9 {e:Expr} {te:TE} {p1 p2 pos1 pos2:Pos} (he:PE X e te) (hc:X.calm=true) (hg1:Gl X "sorted") (hm1:X.mg "sorted" = none) (hg2:Gl X "set") (hm2:X.mg "set" = none)
  (hv1:zCx "sorted" = some (.builtin "sorted"):=by rfl) (hv2:zCx "set" = some (.type "set"):=by rfl)
  (hs1:starEach [.Call (.Name "set" p2) [e] [] pos2] X.env=[(false,eval (.Call (.Name "set" p2) [e] [] pos2) X.env)]:=by rfl) (hs2:starEach [e] X.env=[(false,eval e X.env)]:=by rfl) :
  PE X (.Call (.Name "sorted" p1) [.Call (.Name "set" p2) [e] [] pos2] [] pos1) (CK X.K te):=by
 intro pins s σ H Q I h;refine wpAny_Call_Name_kw (Hv I hg1 hm1 hv1 ?_ (by decide) (by decide));refine PyProof.Rows.callWith_builtin1 ?_ hs1 rfl;rw[hs1];show wpAny _ _ (spliced ((false,eval (.Call (.Name "set" p2) [e] [] pos2) X.env)::backTo pos1 [])) _ _ s;refine Calls.spliced_cons ?_;refine wpAny_Call_Name_kw (Hv I hg2 hm2 hv2 ?_ (by decide) (by decide));refine PyProof.Rows.callWith_type1 ?_ hs2 rfl;rw[hs2];show wpAny _ _ (spliced ((false,eval e X.env)::backTo pos2 [])) _ _ s;refine Calls.spliced_cons (Db (he pins s σ H _ I h) fun u s1 ⟨x,H1,I1,r1,a,ns,ex,hq,l64,q⟩=>?_);subst ex;cases r1;refine Calls.spliced_nil ?_;obtain⟨its,rv,pl,hz⟩:=I1.list hq;have hl:=rv.length;rw[zAb] at hl;have hh:X.A.handled=none:=I.ok.hd hc;refine CST.set_of_list (items:=its.toArray) (ns:=ns) hh pl.isList (Ta rv) (by rw[zAh]; unfold scanBound; lia) fun h2 tk ks g mem len k2=>?_;refine Calls.spliced_nil ?_;rw[zAh] at len;refine CST.sorted_set (s:={ s1 with heap:=h2,toks:=tk }) hh g (by lia) fun s' l out ms ee im pm pw k3 al hl' eg eo=>?_;have nd:ms.Nodup:=by
  obtain⟨_,_,_,_,_,_,_,_,nd,_⟩:=g;exact pm.nodup_iff.mpr nd
 have lt:=Qb pw nd;have kk:∀ b ob,s1.heap.get? b=some ob->s'.heap.get? b=some ob:=fun b ob z=>k3 b ob (k2 b ob z);have le:s1.heap.objs.size<=l:=Nat.le_of_lt al;have lp:(ms.map V.int).length<=sizeLine:=by rw[zAb,pm.length_eq,zCw]; lia
 have new:ObjOk X.prog X.w (upd H1 l (.lst (ms.map V.int))) s'.heap l (.lst (ms.map V.int)):=⟨lp,out.toList,ee,Vy im,hl'⟩;refine⟨.ref l,upd H1 l (.lst (ms.map V.int)),I1.call' (s':=s') (ch:=[]) eo (Un.laid kk le (I1.hok.fresh le)) (I1.hok.laid kk le new) (by rw[eg]; exact I1.bare) (fun b z=>(nomatch z)),rfl,q l ms (I1.hok.fresh le) lt fun y=>?_⟩;rw[pm.mem_iff];exact mem y
theorem Tm {ns:List Int} {its:List Value} (rv:Vals (ns.map V.int) its):∃ ys,its.toArray=intItems ys/\ys.size=ns.length/\∀ i,(h:i<ns.length)->numAt ys i=ns[i]:=by
 have hi:IntsAre its ns:=Mf rv;obtain⟨ys,ey⟩:=hi.allInts.items;have lenI:its.length=ns.length:=hi.length;have hy:ys.size=ns.length:=by
  have z:=congrArg Array.size ey;rw[zAh] at z;unfold intItems at z;rw[Array.size_map] at z
  lia
 refine⟨ys,ey,hy,fun i h=>?_⟩;obtain⟨u,hu,t,ru⟩:=rv.get (i:=i) (x:=.int ns[i]) (by rw[zAs,zAe h]; rfl);have e1:(intItems ys)[i]?=some u:=by rw[<- ey,zBX]; exact hu
 obtain⟨t',e2⟩:=intItems_at e1;rw[ru] at e2;injection e2 with e3;exact e3.symm
def IQ (K:zAa) (le:Int->Int->Prop):List V->Hp->VK->Prop:=fun xs H Q=>∃ p,∃ ns:List Int,xs=[.ref p]/\SqL K H p (ns.map V.int)/\ns≠[]/\∀ m∈ns,(∀ k∈ns,le m k)->Q (.int m) H
theorem X9 (hc:X.calm=true):Gr X (.builtin "min") (IQ X.K (fun m k=>m<=k)):=by
 intro pins s σ H xs us Q I r h;obtain⟨p,ns,rfl,hq,hne,q⟩:=h;obtain⟨u,rfl,rx⟩:=Jm r;cases rx;obtain⟨its,rv,pl,hz⟩:=I.list hq;obtain⟨ys,ey,hy,hn⟩:=Tm rv;have hl:s.heap.IsList p (intItems ys):=ey▸pl.isList;have hpos:0<ns.length:=List.length_pos_iff.mpr hne;refine min_intList (I.ok.hd hc) hl (by lia) fun v h' tk hv hk=>?_;obtain⟨b1,b2⟩:=argBest_lt (numAt ys) (ys.size-1);obtain⟨t,rfl⟩:=intItems_at hv;generalize argBest (fun i j=>decide (numAt ys i<numAt ys j)) (ys.size-1)=z at b1 b2;have zl:z<ns.length:=by lia
 refine⟨.int (numAt ys z),H,I.kept hk,⟨t,rfl⟩,q _ ?_ fun k hk'=>?_⟩
 ·rw[hn z zl]
  exact zBb _
 ·obtain⟨j,hj,e⟩:=zAX hk'
  rw[<- e,<- hn j hj];exact b2 j (by lia)
theorem Y6 (hc:X.calm=true):Gr X (.builtin "max") (IQ X.K (fun m k=>k<=m)):=by
 intro pins s σ H xs us Q I r h;obtain⟨p,ns,rfl,hq,hne,q⟩:=h;obtain⟨u,rfl,rx⟩:=Jm r;cases rx;obtain⟨its,rv,pl,hz⟩:=I.list hq;obtain⟨ys,ey,hy,hn⟩:=Tm rv;have hl:s.heap.IsList p (intItems ys):=ey▸pl.isList;have hpos:0<ns.length:=List.length_pos_iff.mpr hne;refine max_intList (I.ok.hd hc) hl (by lia) fun v h' tk hv hk=>?_;obtain⟨b1,b2⟩:=argBest_gt (numAt ys) (ys.size-1);obtain⟨t,rfl⟩:=intItems_at hv;generalize argBest (fun i j=>decide (numAt ys i>numAt ys j)) (ys.size-1)=z at b1 b2;have zl:z<ns.length:=by lia
 refine⟨.int (numAt ys z),H,I.kept hk,⟨t,rfl⟩,q _ ?_ fun k hk'=>?_⟩
 ·rw[hn z zl]
  exact zBb _
 ·obtain⟨j,hj,e⟩:=zAX hk'
  rw[<- e,<- hn j hj];exact b2 j (by lia)
def BV:V->List V->Hp->VK->Prop:=fun x vs H Q=>∃ l b xs zs,x = .ref l/\vs=[.ref b]/\H l=some (.lst xs)/\H b=some (.tup zs)/\xs.length+zs.length<=sizeLine/\Q .non (upd H l (.lst (xs++zs)))
theorem P1:NY X "list.extend" BV:=by
 intro pins s σ H x vs v us Q I rx rv h;obtain⟨l,b,xs,zs,rfl,rfl,hH,hB,hz,q⟩:=h;cases rx;obtain⟨u,rfl,ru⟩:=rv.one;cases ru;obtain⟨z,its,n,r,hl,e⟩:=I.lstM hH;obtain⟨z2,its2,r2,ob,e2,hc2,n2,hd2⟩:=(show ObjOk X.prog X.w H s.heap b (.tup zs) from I.hok b _ hB);have l1:=r.length;have l2:=r2.length;have sz:its.toArray.size+its2.toArray.size<=sizeLine:=by rw[zAh,zAh]; lia
 have no:¬ (!its.toArray.isEmpty&&Builtin.List.listTooLong (its.toArray.size+its2.toArray.size))=true:=by rw[B7 sz,zBI]; exact zAm
 refine wpAny_call_entry F.slot_list_extend ⟨_,e,rfl⟩ F.entry_list_extend ?_ (F.args_list_extend_2 _ _);show wpAny _ _ (Builtin.List.listExtendWith (.ref l) (.ref b) .none) _ _ _;unfold Builtin.List.listExtendWith;refine zCu (wpAny_typeOf (T := "tuple") ⟨_,e2,hc2⟩ ?_);rw[if_pos (by simp)];refine zCu (listItems_at e2 hd2 (zCu (listItems_at e rfl ?_)));rw[if_neg no];refine zCu (listUpdate_at e rfl ?_ (by rw[zAh]; lia) (by rw[Array.size_append]; lia));refine zCv ⟨_,rfl,.non,_,I.lset (its':=its++its2) hH e (by simp) (r.append r2) ?_,rfl,q⟩;rw[zAi]
 lia
end
end L2
namespace L2
open PySem PySem.Spec PyProof.Rows
inductive Co where
 | alw | cau (n:Str) | thi (n:Str) | day (a b:Int) | ovr (m:Int)
inductive Gc where
 | at (c:Co) | no (t:Gc) | al (ts:List Gc) | so (ts:List Gc)
structure A8 where
 a0:Addr
 a1:Addr
 a2:Addr
 a3:Addr
 a4:Addr
 a5:Addr
 a6:Addr
 a7:Addr
def A8.l (κ:A8):List Addr:=[κ.a0,κ.a1,κ.a2,κ.a3,κ.a4,κ.a5,κ.a6,κ.a7]
def A8.cl (κ:A8) (i:Nat):Addr:=κ.l.getD i 0
theorem A8.inj {κ:A8} (nd:κ.l.Nodup) {i j:Nat} (hi:i<8) (hj:j<8) (h:κ.cl i=κ.cl j):i=j:=by
 have hl:κ.l.length=8:=rfl;unfold A8.cl at h;rw[zAr,zAr,zAe (by lia),zAe (by lia)] at h;have p:=zBd.mp nd;rcases zBF i j with c | c | c
 ·exact absurd h (p i j (by lia) (by lia) c)
 ·exact c
 ·exact absurd h.symm (p j i (by lia) (by lia) c)
def kd:Gc->Nat
 | .at .alw=>0
 | .at (.cau _)=>1
 | .at (.thi _)=>2
 | .at (.day _ _)=>3
 | .at (.ovr _)=>4
 | .no _=>5
 | .al _=>6
 | .so _=>7
theorem Pz (t:Gc):kd t<8:=by
 cases t with
 | «at» c=>cases c <;> simp [kd]
 | no t=>exact (by decide:5<8)
 | al ts=>exact (by decide:6<8)
 | so ts=>exact (by decide:7<8)
def A8.of (κ:A8) (t:Gc):Addr:=κ.cl (kd t)
def A8.Fam (κ:A8) (C:Addr):Prop:=C=κ.a0\/C=κ.a1\/C=κ.a2\/C=κ.a3\/C=κ.a4\/C=κ.a5\/C=κ.a6\/C=κ.a7
theorem A8.fam (κ:A8) (t:Gc):κ.Fam (κ.of t):=by
 cases t with
 | «at» c=>
  cases c with
  | alw=>exact .inl rfl
  | cau _=>exact .inr (.inl rfl)
  | thi _=>exact .inr (.inr (.inl rfl))
  | day _ _=>exact .inr (.inr (.inr (.inl rfl)))
  | ovr _=>exact .inr (.inr (.inr (.inr (.inl rfl))))
 | no t=>exact .inr (.inr (.inr (.inr (.inr (.inl rfl)))))
 | al ts=>exact .inr (.inr (.inr (.inr (.inr (.inr (.inl rfl))))))
 | so ts=>exact .inr (.inr (.inr (.inr (.inr (.inr (.inr rfl))))))
section
variable {κ:A8} {t:Gc}
theorem QS (nd:κ.l.Nodup) (h:κ.of t=κ.a0):t = .at .alw:=by
 have e:kd t=0:=A8.inj nd (Pz t) (by decide) h;cases t with
 | «at» c=>cases c <;> first | rfl | (simp [kd] at e)
 | _=>simp [kd] at e
theorem QT (nd:κ.l.Nodup) (h:κ.of t=κ.a1):∃ n,t = .at (.cau n):=by
 have e:kd t=1:=A8.inj nd (Pz t) (by decide) h;cases t with
 | «at» c=>cases c <;> first | exact⟨_,rfl⟩ | (simp [kd] at e)
 | _=>simp [kd] at e
theorem QU (nd:κ.l.Nodup) (h:κ.of t=κ.a2):∃ n,t = .at (.thi n):=by
 have e:kd t=2:=A8.inj nd (Pz t) (by decide) h;cases t with
 | «at» c=>cases c <;> first | exact⟨_,rfl⟩ | (simp [kd] at e)
 | _=>simp [kd] at e
theorem QN (nd:κ.l.Nodup) (h:κ.of t=κ.a3):∃ a b,t = .at (.day a b):=by
 have e:kd t=3:=A8.inj nd (Pz t) (by decide) h;cases t with
 | «at» c=>cases c <;> first | exact⟨_,_,rfl⟩ | (simp [kd] at e)
 | _=>simp [kd] at e
theorem GG (nd:κ.l.Nodup) (h:κ.of t=κ.a4):∃ n,t = .at (.ovr n):=by
 have e:kd t=4:=A8.inj nd (Pz t) (by decide) h;cases t with
 | «at» c=>cases c <;> first | exact⟨_,rfl⟩ | (simp [kd] at e)
 | _=>simp [kd] at e
theorem RA (nd:κ.l.Nodup) (h:κ.of t=κ.a5):∃ u,t = .no u:=by
 have e:kd t=5:=A8.inj nd (Pz t) (by decide) h;cases t with
 | «at» c=>cases c <;> simp [kd] at e
 | no u=>exact⟨_,rfl⟩
 | _=>simp [kd] at e
theorem QL (nd:κ.l.Nodup) (h:κ.of t=κ.a6):∃ u,t = .al u:=by
 have e:kd t=6:=A8.inj nd (Pz t) (by decide) h;cases t with
 | «at» c=>cases c <;> simp [kd] at e
 | al u=>exact⟨_,rfl⟩
 | _=>simp [kd] at e
theorem QW (nd:κ.l.Nodup) (h:κ.of t=κ.a7):∃ u,t = .so u:=by
 have e:kd t=7:=A8.inj nd (Pz t) (by decide) h;cases t with
 | «at» c=>cases c <;> simp [kd] at e
 | so u=>exact⟨_,rfl⟩
 | _=>simp [kd] at e
end
def Lj:Co->List (Str×V)
 | .alw=>[]
 | .cau n=>Bv "name" (.str n) []
 | .thi n=>Bv "name" (.str n) []
 | .day a b=>Bv "last" (.int b) (Bv "first" (.int a) [])
 | .ovr m=>Bv "cents" (.int m) []
mutual
def CdAt (κ:A8) (H:Hp):V->Gc->Prop
 | v,.at c=>∃ p dx,v = .ref p/\H p=some (.ins (κ.of (.at c)) dx (Lj c))
 | v,.no t=>∃ p dx w,v = .ref p/\H p=some (.ins κ.a5 dx (Bv "part" w []))/\CdAt κ H w t
 | v,.al ts=>∃ p dx l vs,v = .ref p/\H p=some (.ins κ.a6 dx (Bv "several" (.ref l) []))/\H l=some (.lst vs)/\CdsAt κ H vs ts
 | v,.so ts=>∃ p dx l vs,v = .ref p/\H p=some (.ins κ.a7 dx (Bv "several" (.ref l) []))/\H l=some (.lst vs)/\CdsAt κ H vs ts
def CdsAt (κ:A8) (H:Hp):List V->List Gc->Prop
 | [],[]=>True
 | v::vs,t::ts=>CdAt κ H v t/\CdsAt κ H vs ts
 | [],_::_=>False
 | _::_,[]=>False
end
mutual
def TrAt (H:Hp):V->Gc->Prop
 | v,.at .alw=>∃ p,v = .ref p/\H p=some (.tup [.str "always"])
 | v,.at (.cau n)=>∃ p,v = .ref p/\H p=some (.tup [.str "cause",.str n])
 | v,.at (.thi n)=>∃ p,v = .ref p/\H p=some (.tup [.str "thing",.str n])
 | v,.at (.day a b)=>∃ p,v = .ref p/\H p=some (.tup [.str "days",.int a,.int b])
 | v,.at (.ovr m)=>∃ p,v = .ref p/\H p=some (.tup [.str "over",.int m])
 | v,.no t=>∃ p w,v = .ref p/\H p=some (.tup [.str "not",w])/\TrAt H w t
 | v,.al ts=>∃ p l vs,v = .ref p/\H p=some (.tup [.str "all",.ref l])/\H l=some (.lst vs)/\TrsAt H vs ts
 | v,.so ts=>∃ p l vs,v = .ref p/\H p=some (.tup [.str "some",.ref l])/\H l=some (.lst vs)/\TrsAt H vs ts
def TrsAt (H:Hp):List V->List Gc->Prop
 | [],[]=>True
 | v::vs,t::ts=>TrAt H v t/\TrsAt H vs ts
 | [],_::_=>False
 | _::_,[]=>False
end
mutual
def Mv:Gc->Nat
 | .at _=>0
 | .no t=>Mv t+1
 | .al ts=>hgts ts+1
 | .so ts=>hgts ts+1
def hgts:List Gc->Nat
 | []=>0
 | t::ts=>max (Mv t) (hgts ts)
end
structure LS where
 d:Int
 th:Str
 ca:Str
 ct:Int
def LA:Co->LS->Bool
 | .alw,_=>true
 | .cau n,x=>decide (V.str x.ca=V.str n)
 | .thi n,x=>decide (V.str x.th=V.str n)
 | .day a b,x=>decide (a<=x.d)&&decide (x.d<=b)
 | .ovr m,x=>decide (m<x.ct)
mutual
def hT:Gc->LS->Bool
 | .at c,x=>LA c x
 | .no t,x => !hT t x
 | .al ts,x=>hAll ts x
 | .so ts,x=>hSom ts x
def hAll:List Gc->LS->Bool
 | [],_=>true
 | t::ts,x=>hT t x&&hAll ts x
def hSom:List Gc->LS->Bool
 | [],_=>false
 | t::ts,x=>hT t x||hSom ts x
end
mutual
theorem CdAt.same {κ:A8} {H H':Hp} (s:Same H H'):∀ {v:V} (t:Gc),CdAt κ H v t->CdAt κ H' v t
 | v,.at c,h=>by
  unfold CdAt at h ⊢;obtain⟨p,dx,e,h⟩:=h;exact⟨p,dx,e,s _ _ h⟩
 | v,.no t,h=>by
  unfold CdAt at h ⊢;obtain⟨p,dx,w,e,h,r⟩:=h;exact⟨p,dx,w,e,s _ _ h,CdAt.same s t r⟩
 | v,.al ts,h=>by
  unfold CdAt at h ⊢;obtain⟨p,dx,l,vs,e,h,g,r⟩:=h;exact⟨p,dx,l,vs,e,s _ _ h,s _ _ g,CdsAt.same s ts r⟩
 | v,.so ts,h=>by
  unfold CdAt at h ⊢;obtain⟨p,dx,l,vs,e,h,g,r⟩:=h;exact⟨p,dx,l,vs,e,s _ _ h,s _ _ g,CdsAt.same s ts r⟩
theorem CdsAt.same {κ:A8} {H H':Hp} (s:Same H H'):∀ {vs:List V} (ts:List Gc),CdsAt κ H vs ts->CdsAt κ H' vs ts
 | [],[],_=>by unfold CdsAt; trivial
 | v::vs,t::ts,h=>by
  unfold CdsAt at h ⊢;exact⟨CdAt.same s t h.1,CdsAt.same s ts h.2⟩
 | [],_::_,h=>by unfold CdsAt at h; exact h.elim
 | _::_,[],h=>by unfold CdsAt at h; exact h.elim
end
mutual
theorem TrAt.same {H H':Hp} (s:Same H H'):∀ {v:V} (t:Gc),TrAt H v t->TrAt H' v t
 | v,.at .alw,h=>by unfold TrAt at h ⊢; obtain⟨p,e,h⟩:=h; exact⟨p,e,s _ _ h⟩
 | v,.at (.cau n),h=>by unfold TrAt at h ⊢; obtain⟨p,e,h⟩:=h; exact⟨p,e,s _ _ h⟩
 | v,.at (.thi n),h=>by unfold TrAt at h ⊢; obtain⟨p,e,h⟩:=h; exact⟨p,e,s _ _ h⟩
 | v,.at (.day a b),h=>by unfold TrAt at h ⊢; obtain⟨p,e,h⟩:=h; exact⟨p,e,s _ _ h⟩
 | v,.at (.ovr m),h=>by unfold TrAt at h ⊢; obtain⟨p,e,h⟩:=h; exact⟨p,e,s _ _ h⟩
 | v,.no t,h=>by
  unfold TrAt at h ⊢;obtain⟨p,w,e,h,r⟩:=h;exact⟨p,w,e,s _ _ h,TrAt.same s t r⟩
 | v,.al ts,h=>by
  unfold TrAt at h ⊢;obtain⟨p,l,vs,e,h,g,r⟩:=h;exact⟨p,l,vs,e,s _ _ h,s _ _ g,TrsAt.same s ts r⟩
 | v,.so ts,h=>by
  unfold TrAt at h ⊢;obtain⟨p,l,vs,e,h,g,r⟩:=h;exact⟨p,l,vs,e,s _ _ h,s _ _ g,TrsAt.same s ts r⟩
theorem TrsAt.same {H H':Hp} (s:Same H H'):∀ {vs:List V} (ts:List Gc),TrsAt H vs ts->TrsAt H' vs ts
 | [],[],_=>by unfold TrsAt; trivial
 | v::vs,t::ts,h=>by
  unfold TrsAt at h ⊢;exact⟨TrAt.same s t h.1,TrsAt.same s ts h.2⟩
 | [],_::_,h=>by unfold TrsAt at h; exact h.elim
 | _::_,[],h=>by unfold TrsAt at h; exact h.elim
end
theorem CdsAt.len {κ:A8} {H:Hp}:∀ {vs:List V} {ts:List Gc},CdsAt κ H vs ts->vs.length=ts.length
 | [],[],_=>rfl
 | v::vs,t::ts,h=>by
  unfold CdsAt at h;rw[zAg,zAg,CdsAt.len h.2]
 | [],_::_,h=>by unfold CdsAt at h; exact h.elim
 | _::_,[],h=>by unfold CdsAt at h; exact h.elim
theorem TrsAt.len {H:Hp}:∀ {vs:List V} {ts:List Gc},TrsAt H vs ts->vs.length=ts.length
 | [],[],_=>rfl
 | v::vs,t::ts,h=>by
  unfold TrsAt at h;rw[zAg,zAg,TrsAt.len h.2]
 | [],_::_,h=>by unfold TrsAt at h; exact h.elim
 | _::_,[],h=>by unfold TrsAt at h; exact h.elim
theorem CdsAt.get {κ:A8} {H:Hp}:∀ {vs:List V} {ts:List Gc} {i:Nat} {v:V},CdsAt κ H vs ts->vs[i]?=some v->∃ t,ts[i]?=some t/\CdAt κ H v t
 | [],[],_,_,_,e=>by simp at e
 | v::vs,t::ts,0,u,h,e=>by
  unfold CdsAt at h;simp at e;subst e;exact⟨t,rfl,h.1⟩
 | v::vs,t::ts,i+1,u,h,e=>by
  unfold CdsAt at h;obtain⟨t',e',r⟩:=CdsAt.get (i:=i) h.2 (by simpa using e);exact⟨t',by simpa using e',r⟩
 | [],_::_,_,_,h,_=>by unfold CdsAt at h; exact h.elim
 | _::_,[],_,_,h,_=>by unfold CdsAt at h; exact h.elim
theorem TrsAt.get {H:Hp}:∀ {vs:List V} {ts:List Gc} {i:Nat} {v:V},TrsAt H vs ts->vs[i]?=some v->∃ t,ts[i]?=some t/\TrAt H v t
 | [],[],_,_,_,e=>by simp at e
 | v::vs,t::ts,0,u,h,e=>by
  unfold TrsAt at h;simp at e;subst e;exact⟨t,rfl,h.1⟩
 | v::vs,t::ts,i+1,u,h,e=>by
  unfold TrsAt at h;obtain⟨t',e',r⟩:=TrsAt.get (i:=i) h.2 (by simpa using e);exact⟨t',by simpa using e',r⟩
 | [],_::_,_,_,h,_=>by unfold TrsAt at h; exact h.elim
 | _::_,[],_,_,h,_=>by unfold TrsAt at h; exact h.elim
theorem CdsAt.snoc {κ:A8} {H:Hp}:∀ {vs:List V} {ts:List Gc} {v:V} {t:Gc},CdsAt κ H vs ts->CdAt κ H v t->CdsAt κ H (vs++[v]) (ts++[t])
 | [],[],v,t,_,r=>by
  show CdsAt κ H [v] [t];unfold CdsAt;exact⟨r,by unfold CdsAt; trivial⟩
 | v::vs,t::ts,v',t',h,r=>by
  unfold CdsAt at h;show CdsAt κ H (v::(vs++[v'])) (t::(ts++[t']));unfold CdsAt;exact⟨h.1,CdsAt.snoc h.2 r⟩
 | [],_::_,_,_,h,_=>by unfold CdsAt at h; exact h.elim
 | _::_,[],_,_,h,_=>by unfold CdsAt at h; exact h.elim
theorem Kz {ts:List Gc} {t:Gc} {m:Nat} (h:hgts ts<m) (i:Nat) (e:ts[i]?=some t):Mv t<m:=by
 induction ts generalizing i with
 | nil=>simp at e
 | cons u us ih=>
  unfold hgts at h;cases i with
  | zero=>simp at e; subst e; lia
  | succ i=>exact ih (by lia) i (by simpa using e)
theorem Y7 {ts:List Gc} {t:Gc} {x:LS} {i:Nat} (e:ts[i]?=some t):hAll (ts.drop i) x=(hT t x&&hAll (ts.drop (i+1)) x):=by
 rw[zBv (zAj.mp e).1,(zAj.mp e).2,hAll]
theorem Y9 {ts:List Gc} {t:Gc} {x:LS} {i:Nat} (e:ts[i]?=some t):hSom (ts.drop i) x=(hT t x||hSom (ts.drop (i+1)) x):=by
 rw[zBv (zAj.mp e).1,(zAj.mp e).2,hSom]
theorem BN (ts:List Gc) (x:LS):hAll ts x=(ts.map fun t=>hT t x).all id:=by
 induction ts with
 | nil=>unfold hAll; rfl
 | cons t ts ih=>rw[hAll,ih]; rfl
theorem BI (ts:List Gc) (x:LS):hSom ts x=(ts.map fun t=>hT t x).any id:=by
 induction ts with
 | nil=>unfold hSom; rfl
 | cons t ts ih=>rw[hSom,ih]; rfl
theorem AK (bs:List Bool):(!FQ (.bl false) (bs.map V.bl))=bs.all id:=by
 unfold FQ
 induction bs with
 | nil=>rfl
 | cons b bs ih=>
  rw[zAK,zBE,zCg,<- ih];cases b <;> rfl
theorem BL (bs:List Bool):FQ (.bl true) (bs.map V.bl)=bs.any id:=by
 unfold FQ
 induction bs with
 | nil=>rfl
 | cons b bs ih=>
  rw[zAK,zBE,zBE,<- ih];cases b <;> rfl
theorem OW:¬ (("first" : Str) = "last"):=by decide +kernel
theorem BM (n:Str):(Lj (.cau n)).lookup ("name" : Str)=some (.str n):=by unfold Lj; rw[Bj,if_pos rfl]
theorem DL (n:Str):(Lj (.thi n)).lookup ("name" : Str)=some (.str n):=by unfold Lj; rw[Bj,if_pos rfl]
theorem GD (a b:Int):(Lj (.day a b)).lookup ("last" : Str)=some (.int b):=by unfold Lj; rw[Bj,if_pos rfl]
theorem DA (a b:Int):(Lj (.day a b)).lookup ("first" : Str)=some (.int a):=by unfold Lj; rw[Bj,if_neg OW,Bj,if_pos rfl]
theorem FF (m:Int):(Lj (.ovr m)).lookup ("cents" : Str)=some (.int m):=by unfold Lj; rw[Bj,if_pos rfl]
theorem P5 (f:Str) (v:V):(Bv f v []).lookup f=some v:=by rw[Bj,if_pos rfl]
theorem Fs {f g:Str} (h:¬ g=f) (v:V):(Bv f v []).lookup g=none:=by rw[Bj,if_neg h]; rfl
theorem R0 (c:Co) {m:Str} (h1:¬ m = "name") (h2:¬ m = "first") (h3:¬ m = "last") (h4:¬ m = "cents"):(Lj c).lookup m=none:=by
 cases c with
 | alw=>rfl
 | cau n=>unfold Lj; rw[Bj,if_neg h1]; rfl
 | thi n=>unfold Lj; rw[Bj,if_neg h1]; rfl
 | day a b=>unfold Lj; rw[Bj,if_neg h3,Bj,if_neg h2]; rfl
 | ovr m=>unfold Lj; rw[Bj,if_neg h4]; rfl
theorem CdAt.obj {κ:A8} {H:Hp} {v:V} {t:Gc} (h:CdAt κ H v t):∃ p dx fs,v = .ref p/\H p=some (.ins (κ.of t) dx fs) /\
  fs.lookup ("holds" : Str)=none/\fs.lookup ("rank" : Str)=none/\fs.lookup ("words" : Str)=none/\fs.lookup ("marks" : Str)=none:=by
 cases t with
 | «at» c=>
  unfold CdAt at h;obtain⟨p,dx,e,h⟩:=h;exact⟨p,dx,_,e,h,R0 c (by decide +kernel) (by decide +kernel) (by decide +kernel) (by decide +kernel),R0 c (by decide +kernel) (by decide +kernel) (by decide +kernel) (by decide +kernel),R0 c (by decide +kernel) (by decide +kernel) (by decide +kernel) (by decide +kernel),R0 c (by decide +kernel) (by decide +kernel) (by decide +kernel) (by decide +kernel)⟩
 | no t=>
  unfold CdAt at h;obtain⟨p,dx,w,e,h,_⟩:=h;exact⟨p,dx,_,e,h,Fs (by decide +kernel) _,Fs (by decide +kernel) _,Fs (by decide +kernel) _,Fs (by decide +kernel) _⟩
 | al ts=>
  unfold CdAt at h;obtain⟨p,dx,l,vs,e,h,_⟩:=h;exact⟨p,dx,_,e,h,Fs (by decide +kernel) _,Fs (by decide +kernel) _,Fs (by decide +kernel) _,Fs (by decide +kernel) _⟩
 | so ts=>
  unfold CdAt at h;obtain⟨p,dx,l,vs,e,h,_⟩:=h;exact⟨p,dx,_,e,h,Fs (by decide +kernel) _,Fs (by decide +kernel) _,Fs (by decide +kernel) _,Fs (by decide +kernel) _⟩
def Nw (H H':Hp):Hp:=fun b=>match H b with
 | none=>H' b
 | some _=>none
theorem Nw.of {H H':Hp} {b:Addr} {o:HO} (h:H b=none) (e:H' b=some o):Nw H H' b=some o:=by
 unfold Nw;rw[h];exact e
theorem Nw.at {H H':Hp} {b:Addr} {o:HO} (e:Nw H H' b=some o):H b=none/\H' b=some o:=by
 unfold Nw at e;cases h:H b with
 | none=>rw[h] at e; exact⟨rfl,e⟩
 | some o'=>rw[h] at e; cases e
theorem Nw.grow {H H1 H2:Hp} (s:∀ b o,H b=none->H1 b=some o->H2 b=some o):Same (Nw H H1) (Nw H H2):=fun b o e=>Nw.of (Nw.at e).1 (s b o (Nw.at e).1 (Nw.at e).2)
def JS (H:Hp) (t:Addr) (x:LS):Prop:=∃ ev,∃ n:Int,H t=some (.tup [.int n,.int x.d,.str ev,.str x.th,.str x.ca,.int x.ct])
mutual
def Ls (φ:Co->Prop):Gc->Prop
 | .at c=>φ c
 | .no t=>Ls φ t
 | .al ts=>2<=ts.length/\ts.length<=8/\okTs φ ts
 | .so ts=>2<=ts.length/\ts.length<=8/\okTs φ ts
def okTs (φ:Co->Prop):List Gc->Prop
 | []=>True
 | t::ts=>Ls φ t/\okTs φ ts
end
theorem R1 {φ:Co->Prop} {ts:List Gc} (h:∀ t∈ts,Ls φ t):okTs φ ts:=by
 induction ts with
 | nil=>unfold okTs; trivial
 | cons t ts ih=>unfold okTs; exact⟨h t zAk,ih fun u hu=>h u (zAd _ hu)⟩
theorem Rc {φ:Co->Prop} {ts:List Gc} (h:okTs φ ts):∀ t∈ts,Ls φ t:=by
 induction ts with
 | nil=>intro t ht; cases ht
 | cons t ts ih=>
  unfold okTs at h;intro u hu;rcases zAn.mp hu with rfl | hu
  ·exact h.1
  ·exact ih h.2 u hu
section
variable {R R':V->Gc->Prop} {vs ws:List V} {ts us:List Gc}
end
theorem MH {c:Prop} {inst:Decidable c} {t u:TS} {D:Qy} {σ:St} {H:Hp} (G:St->Hp->Prop)
  (h1:c->∀ N:St->Hp->Prop,(∀ σ' H',G σ' H'->N σ' H')->t { D with nx:=N } σ H) (h2:¬ c->∀ N:St->Hp->Prop,(∀ σ' H',G σ' H'->N σ' H')->u { D with nx:=N } σ H)
  (R:∀ σ' H',G σ' H'->D.nx σ' H'):@ite Prop c inst (t D σ H) (u D σ H):=by
 by_cases z:c
 ·rw[if_pos z]; exact h1 z _ R
 ·rw[if_neg z]; exact h2 z _ R
section
variable {wc:Co->List Str} {φ:Co->Prop}
end
section
variable {X:Cx} {k:Nat} {C:Addr} {m:Str} {ps:List Str} {sp:Sp} {e o:Expr} {es:List Expr} {apos pos:Pos} {ta:TE} {t:TA} {W:St->XK}
end
section
variable {wc:Co->List Str} {φ:Co->Prop} {af:List Str->Nat->Prop}
end
end L2
namespace L2
open PySem PySem.Spec PyProof PyProof.Rows
section
variable {X:Cx} {pins:List (Addr×Obj)} {σ:St} {H:Hp} {s:Shared} {e:Addr}
end
section
variable {M:Model} {A:Around} {E:Value->Shared->Prop} {env:Env}
variable {nm q:Str} {C N:Addr} {bs bm:List Value} {hdct:Bool} {sn:List Str} {sub:List Value} {ab:Bool} {col:Option Bool} {dd:Option Addr} {k0 k1 k2 k3 k5:Option Value} {newId:String}
end
section
variable {X:Cx} {x f:Str} {C:Addr} {np cpos pos apos:Pos} {e o value:Expr} {es:List Expr} {t:TA} {ta tv:TE} {W:St->XK}
end
section
variable {prog:Program} {w:World} {A:Around} {E:Value->Shared->Prop} {env:Env}
variable {nm q:Str} {C N:Addr} {bs bm:List Value} {hdct:Bool} {sn:List Str} {sub:List Value} {ab:Bool} {col:Option Bool} {dd:Option Addr} {k0 k1 k2 k3 k5:Option Value} {newId:String}
end
section
variable {X:Cx} {x f:Str} {C:Addr} {np cpos pos apos cp:Pos} {j:Nat} {e o value:Expr} {es:List Expr} {t:TA} {ta tv:TE} {W:St->XK}
end
section
variable {X:Cx} {x n:Str} {Ch:Addr} {i:Nat} {body suite:List Stmt} {b₀ : Stmt} {tb:(St->XK)->TS} {ts:TS} {np hpos pos:Pos} {pins:List (Addr×Obj)} {σ:St} {H:Hp} {s:Shared} {e:Addr} {oe:Obj}
end
theorem Lc {X:Cx} {K:zAa} {f:Str} {pos:Pos} {e:Expr} {ta:TE} (he:PE X e ta) (hb:attributeBase e f X.env (eval e X.env)=eval e X.env) (hK:X.K=K:=by rfl):PE X (.Attribute e f pos) (MD K ta f):=hK▸Cs he hb
end L2
namespace CST
open PySem
section
variable {prog:Program} {w:World} {A:Around} {E:Value->Shared->Prop} {s:Shared}
variable {R:Result->Shared->Prop} {I:Addr} {fp wr:List Addr} {G:Array GenState->Array GenState->Prop} {n:Nat} {P:Nat->Value->Prop} {St:Nat->Shared->Prop}
theorem GSet.keepS {h h':Heap} {a:Addr} {ks:List Str} (g:GSet (strKind prog w) h a ks) (k:∀ o,h.get? a=some o->h'.get? a=some o):GSet (strKind prog w) h' a ks:=by
 obtain⟨o,es,ep,t,ho,r⟩:=g;exact⟨o,es,ep,t,k o ho,r⟩
theorem Yp (W:WalksS prog w A.in1 I fp wr G n P St) (S:Addr) (nS:S∉fp) (val:Nat->Str) (hv:∀ i v,P i v->∃ t,v = .str (val i) t) (hb:n+1<scanBound) :
  ∀ (k i:Nat) (s:Shared) (ks:List Str),n-i=k->i<=n->St i s->GSet (strKind prog w) s.heap S ks->(∀ y,y∈ks↔∃ j,j<i/\val j=y)->ks.length<=i ->
   (∀ s' ks',Moved (S::wr) G s s'->GSet (strKind prog w) s'.heap S ks'->(∀ y,y∈ks'↔∃ j,j<n/\val j=y)->ks'.length<=n->R (.ok (.ret .none)) s') ->
   codeAny (model prog w) A (.builtin "set.update.loop" ⟨[.ref S,.ref I],[]⟩) R s:=by
 have nw:S∉wr:=fun z=>nS (W.sub _ z);have sub:∀ b∈wr,b∈S::wr:=fun b hb=>zAd _ hb;intro k
 induction k with
 | zero=>
  intro i s ks hk hi st g mem len fin;have e:i=n:=by lia
  subst e;refine codeAny_builtin PyProof.Rows.F.entry_set_update_loop ?_;rw[Around.under_plainId PyProof.Rows.F.plain_set_update_loop _];show wpAny _ A.in1 (pyNext (.ref I) >>= _) _ _ s;refine zCu (W.done s _ _ st fun s' hm=>?_);show wpAny _ A.in1 (ret Value.none) _ _ s';exact zCv (fin s' ks (hm.mono sub) (GSet.keepS g fun o e=>hm.heap S o nw e) mem len)
 | succ k ih=>
  intro i s ks hk hi st g mem len fin;refine codeAny_builtin PyProof.Rows.F.entry_set_update_loop ?_;rw[Around.under_plainId PyProof.Rows.F.plain_set_update_loop _];show wpAny _ A.in1 (pyNext (.ref I) >>= _) _ _ s;refine zCu (W.item i s _ _ (by lia) st fun v s' hP st' hm=>?_);obtain⟨tk,rfl⟩:=hv i v hP;have g':=GSet.keepS g fun o e=>hm.heap S o nw e;show wpAny _ A.in1 (holding [Value.str (val i) tk] (setAdd S (.str (val i) tk)) >>= _) _ _ s';refine zCu (wpAny_holding ?_);unfold setAdd;refine wpAny_holding (zCu ((strKind prog w).pyHash (k:=val i) (strKind_is _ _ _ _) ?_));refine IF (knd:=strKind prog w) (s:={ s' with toks:=s'.toks+1 }) (strKind_is _ _ _ _) rfl g' (by lia) fun b h' ks' sb g2 pm=>?_;have len':ks'.length<=i+1:=by
   rw[pm.length_eq]
   split
   ·lia
   ·rw[zAi,List.length_singleton]; lia
  have mem':∀ y,y∈ks'↔∃ j,j<i+1/\val j=y:=fun y=>by
   rw[pm.mem_iff];constructor
   ·intro hy
    split at hy
    ·obtain⟨j,h1,h2⟩:=(mem y).mp hy
     exact⟨j,by lia,h2⟩
    ·rcases zAz.mp hy with z | z
     ·obtain⟨j,h1,h2⟩:=(mem y).mp z
      exact⟨j,by lia,h2⟩
     ·exact⟨i,by lia,(zAo.mp z).symm⟩
   ·rintro ⟨j,h1,h2⟩
    have old:∀ {z},z∈ks->z∈(if val i∈ks then ks else ks++[val i]):=fun {z} hz=>by
     split
     ·exact hz
     ·exact zBY _ hz
    by_cases c:j<i
    ·exact old ((mem y).mpr ⟨j,c,h2⟩)
    ·have e:j=i:=by lia
     subst e
     split
     ·rw[<- h2]; assumption
     ·rw[<- h2]; exact zAO _ (zAo.mpr rfl)
  refine zCv ⟨plainId_quiet PyProof.Rows.F.plain_set_update_loop _,ih (i+1) _ ks' (by lia) (by lia) (W.frame _ s' _ _ st' (zBh _) fun b hb o e=>?_) g2 mem' len' fun s2 ks2 hm2 g3 m3 l3=>?_⟩
  ·rw[sb.2 b (fun z:b=S=>nS (by rw[<- z]; exact hb))]; exact e
  ·refine fin s2 ks2 (Moved.trans W.gtrans ((hm.mono sub).then_heap (zBh _) fun b o hb e=>?_) hm2) g3 m3 l3
   rw[sb.2 b (fun z:b=S=>hb (by rw[z]; exact zAk))]; exact e
end
section
variable {prog:Program} {w:World} {A:Around} {E:Value->Shared->Prop} {s:Shared}
theorem BC {h:Heap} {a:Addr} (ho:h.get? a=some (Ie w)):GSet (strKind prog w) h a []:=by
 refine⟨_,#[],0,_,ho,⟨rfl,rfl,rfl⟩,rfl,.nil,List.nodup_nil,by decide,rfl,?_⟩;exact Se (w.params.followText "set-order")
theorem set_of_strs {l:Addr} {items:Array Value} {ns:List Str} {Q:Value->Shared->Prop} (hh:A.handled=none) (hl:s.heap.IsList l items) (hi:∀ (i:Nat) (v:Value),items[i]?=some v->∃ t,v = .str (ns.getD i Str.empty) t) (ln:items.size=ns.length) (hb:items.size+1<scanBound)
  (h:∀ (h':Heap) (tk:Nat) (ks:List Str),GSet (strKind prog w) h' s.heap.objs.size ks->(∀ y,y∈ks↔y∈ns)->ks.length<=items.size->(∀ b o,s.heap.get? b=some o->h'.get? b=some o)->Q (.ref s.heap.objs.size) { s with heap:=h',toks:=tk }) :
  wpAny (model prog w) A (call (.type "set") [.ref l]) Q E s:=by
 obtain⟨c,tl,hmro⟩:=F.called_set.mro;have hmade:=F.called_set.made;have hsub:=F.called_set.sub;have h1:=F.called_set.notType;have h2:=F.called_set.canCreate;have hct:=F.typeCall_set_1 (.ref l);refine wpAny_call (codeAny_of_tree (show wpAny _ _ (callAny (.type "set") _) _ _ _ from ?_));refine zCv ⟨Code.quiet_builtin _ (by decide +kernel),codeAny_builtin F.entry_type_call ?_⟩;rw[Around.under_plain (weight_type_call_type "set" [.ref l] []) rfl]
 repeat (any_goals (first | assumption | wp_step))
 refine codeAny_mono (X1 (x:=.ref l) (E:=E) (Q:=fun v s₁ => v = .ref s.heap.objs.size/\s₁ = { s with heap:=s.heap.push (Ie w) }) ⟨rfl,rfl⟩) fun r s₁ hr=>?_;cases r with
 | error e=>exact hr
 | ok fl=>
  cases fl with
  | ret obj=>
   obtain⟨rfl,rfl⟩:=hr;have at0:(s.heap.push (Ie w)).get? s.heap.objs.size=some (Ie w):=zAy _ rfl;have hT:Shared.TypeIs { s with heap:=s.heap.push (Ie w) } (.ref s.heap.objs.size) "set" := ⟨_,at0,rfl⟩;have hli:=F.called_set.init.lookup;have hbi:=F.called_set.init.bind (.ref s.heap.objs.size)
   repeat (any_goals (first | assumption | wp_step))
   refine codeAny_mono (codeAny_call_builtin (R:=wants (fun r s₂ => r = .none/\∃ h' tk ks,s₂ = { s with heap:=h',toks:=tk }/\GSet (strKind prog w) h' s.heap.objs.size ks/\(∀ y,y∈ks↔y∈ns)/\ks.length<=items.size/\(∀ b o,s.heap.get? b=some o->h'.get? b=some o)) E)
    F.called_set.init.plain F.entry_set_init (check_set_init_1 hT ?_)) fun r₂ s₂ hr₂ => ?_
   ·obtain⟨⟨oc,od,odt,osl⟩,hol,hcl,nl,hdl⟩:=id hl
    simp only at hcl hdl;subst hcl hdl;have old:(s.heap.push (Ie w)).get? l=some { cls:=.type "list",dict:=od,data:=.seq items nl,slots:=osl }:=zAf _ hol;have il:(s.heap.push (Ie w)).IsList l items:=⟨_,old,rfl,nl,rfl⟩;have lt:l<s.heap.objs.size:=zAq hol;have u1:=F.sub_list_set;have u2:=F.sub_list_frozenset;have u3:(Value.type "list" == Value.type "dict")=false:=by decide
    unfold Builtin.«set.__init__» noKeywords Builtin.Frozenset.updateFrom;generalize hPI:pyIter=PI
    wp_walk
    subst hPI;refine wpAny_pyIter_list il (zCu (wpAny_runValue ?_));have sz:(s.heap.push (Ie w)).objs.size=s.heap.objs.size+1:=zBy ..;have ne:l≠(s.heap.push (Ie w)).objs.size:=by rw[sz]; exact zAu (zBx lt)
    have h3:A.in1.in1.in1.handled=none:=by simp [hh]
    have nf:s.heap.objs.size∉[(s.heap.push (Ie w)).objs.size,l]:=by
     rw[sz];intro z;rcases zAn.mp z with z | z
     ·exact absurd z (zAu (zBz _))
     ·exact absurd (zAo.mp z) (zBs lt)
    have hv:∀ (i:Nat) (v:Value),items[i]?=some v->∃ t,v = .str ((fun i=>ns.getD i Str.empty) i) t:=hi;refine Yp ((Walks.list h3 _ l ne items).toS) s.heap.objs.size nf (fun i=>ns.getD i Str.empty) hv hb (items.size-0) 0 _ [] (by lia) (zAA _) ⟨⟨_,zAy _ rfl,rfl,rfl⟩,il.push _⟩ (BC (zAf _ at0)) (fun y=>⟨fun z=>(nomatch z),fun ⟨j,z,_⟩=>absurd z (zBq _)⟩) (zAA _) fun s' ks hm g m ln'=>?_;obtain⟨h',g',d',tk',os'⟩:=s';have eg:g'=s.gens:=hm.gens;have ed:d'=s.drawn:=hm.drawn;have eo:os'=s.os:=hm.os;subst eg ed eo;refine zCv (zCv ⟨rfl,h',tk',ks,rfl,g,fun y=>?_,ln',fun b o e=>?_⟩)
    ·rw[m y]
     constructor
     ·rintro ⟨j,z1,z2⟩
      rw[<- z2];show ns.getD j Str.empty∈ns;rw[zAr,zAe (by lia)];exact zBb _
     ·intro z
      obtain⟨j,hj,e⟩:=zAX z;refine⟨j,by lia,?_⟩;show ns.getD j Str.empty=y;rw[zAr,zAe hj];exact e
    ·refine hm.heap b o (fun z=>?_) (zAf _ (zAf _ e))
     have lb:=zAq e;rcases zAn.mp z with z | z
     ·exact absurd z (zAu lb)
     ·exact absurd (zAo.mp z) (by rw[sz]; exact zAu (zBx lb))
   ·cases r₂ with
    | error e=>exact hr₂
    | ok fl₂ =>
     cases fl₂ with
     | ret r=>
      obtain⟨rfl,h',tk,ks,rfl,g,m,ln,k⟩:=hr₂
      repeat (any_goals (first | assumption | wp_step))
      exact h _ _ ks g m ln k
     | _=>exact hr₂.elim
  | _=>exact hr.elim
end
end CST
namespace L2
open PySem PySem.Spec PyProof PyProof.Rows
section
variable {α:Type} [DecidableEq α]
theorem Nd:∀ {ks ss:List α},ks.Nodup->(∀ y∈ks,y∈ss)->ks.length<=ss.length
 | [],_,_,_=>zAA _
 | k::ks,ss,nd,h=>by
  rw[zAW] at nd;have hk:=h k zAk;have ih:=Nd (ks:=ks) (ss:=ss.erase k) nd.2 fun y hy=>(zCd (fun z=>nd.1 (by rw[<- z]; exact hy))).mpr (h y (zAd _ hy));rw[zBL hk] at ih;have:0<ss.length:=zBR hk;rw[zAg]
  lia
theorem Zz:∀ {ss:List α},¬ ss.Nodup->∃ x,x∈ss/\x∈ss.erase x
 | [],h=>absurd List.nodup_nil h
 | y::t,h=>by
  by_cases c:y∈t
  ·exact⟨y,zAk,by rw[List.erase_cons_head]; exact c⟩
  ·obtain⟨x,h1,h2⟩:=Zz (ss:=t) (fun z=>h (zAW.mpr ⟨c,z⟩))
   have ne:¬ (y==x)=true:=fun z=>c (by rw[beq_iff_eq.mp z]; exact h1);exact⟨x,zAd _ h1,by rw[List.erase_cons_tail ne]; exact zAd _ h2⟩
theorem EX {ks ss:List α} (nd:ks.Nodup) (m:∀ y,y∈ks↔y∈ss):(ss.Nodup->ks.length=ss.length)/\(¬ ss.Nodup->ks.length<ss.length):=by
 refine⟨fun h=>Nat.le_antisymm (Nd nd fun y hy=>(m y).mp hy) (Nd h fun y hy=>(m y).mpr hy),fun h=>?_⟩;obtain⟨x,h1,h2⟩:=Zz h;have:=Nd (ss:=ss.erase x) nd fun y hy=>by
  by_cases c:y=x
  ·rw[c]; exact h2
  ·exact (zCd c).mpr ((m y).mp hy)
 rw[zBL h1] at this;have:0<ss.length:=zBR h1
 lia
end
theorem R4:∀ {ss:List Str} {us:List Value},Vals (ss.map V.str) us->∀ (i:Nat) (v:Value),us[i]?=some v->∃ t,v = .str (ss.getD i Str.empty) t
 | [],_,.nil,i,v,e=>by simp at e
 | _::_,_::_,.cons r _,0,v,e=>by
  simp at e;subst e;obtain⟨t,rfl⟩:=r;exact⟨t,rfl⟩
 | _::ss,_::us,.cons _ q,i+1,v,e=>by
  obtain⟨t,rfl⟩:=R4 q i v (by simpa using e);exact⟨t,by simp⟩
def GL (K:zAa) (te:TE):TE:=fun σ H Q=>te σ H fun x H1=>∃ a ss,x = .ref a/\SqL K H1 a (List.map V.str ss)/\ss.length<60/\∀ n:Nat,(ss.Nodup->n=ss.length)->(¬ ss.Nodup->n<ss.length)->Q (.int (n:Int)) H1
section
variable {X:Cx}
theorem AT {e:Expr} {te:TE} {p1 p2 pos1 pos2:Pos} (he:PE X e te) (hc:X.calm=true) (hg1:Gl X "len") (hm1:X.mg "len" = none) (hg2:Gl X "set") (hm2:X.mg "set" = none)
  (hv1:zCx "len" = some (.builtin "len"):=by rfl) (hv2:zCx "set" = some (.type "set"):=by rfl)
  (hs1:starEach [.Call (.Name "set" p2) [e] [] pos2] X.env=[(false,eval (.Call (.Name "set" p2) [e] [] pos2) X.env)]:=by rfl) (hs2:starEach [e] X.env=[(false,eval e X.env)]:=by rfl) :
  PE X (.Call (.Name "len" p1) [.Call (.Name "set" p2) [e] [] pos2] [] pos1) (GL X.K te):=by
 intro pins s σ H Q I h;refine wpAny_Call_Name_kw (Hv I hg1 hm1 hv1 ?_ (by decide) (by decide));refine PyProof.Rows.callWith_builtin1 ?_ hs1 rfl;rw[hs1];show wpAny _ _ (spliced ((false,eval (.Call (.Name "set" p2) [e] [] pos2) X.env)::backTo pos1 [])) _ _ s;refine Calls.spliced_cons ?_;refine wpAny_Call_Name_kw (Hv I hg2 hm2 hv2 ?_ (by decide) (by decide));refine PyProof.Rows.callWith_type1 ?_ hs2 rfl;rw[hs2];show wpAny _ _ (spliced ((false,eval e X.env)::backTo pos2 [])) _ _ s;refine Calls.spliced_cons (Db (he pins s σ H _ I h) fun u s1 ⟨x,H1,I1,r1,a,ss,ex,hq,l60,q⟩=>?_);subst ex;cases r1;refine Calls.spliced_nil ?_;obtain⟨its,rv,pl,hz⟩:=I1.list hq;have hl:=rv.length;rw[zAb] at hl;have hh:X.A.handled=none:=I.ok.hd hc;have hv:∀ (i:Nat) (v:Value),its.toArray[i]?=some v->∃ t,v = .str (ss.getD i Str.empty) t:=fun i v e=>by
  rw[zBX] at e;exact R4 rv i v e
 refine CST.set_of_strs (items:=its.toArray) (ns:=ss) hh pl.isList hv (by rw[zAh]; exact hl.symm) (by rw[zAh]; unfold scanBound; lia) fun h2 tk ks g mem len k2=>?_;refine Calls.spliced_nil ?_;rw[zAh] at len;obtain⟨o,es,ep,t,ho,hex,hd,hp,nd,hsz,hf,_⟩:=g;obtain⟨z1,z2⟩:=EX nd mem;have le:es.size=ks.length:=by rw[<- zAC]; exact hp.length
 refine call_len_set (s:={ s1 with heap:=h2,toks:=tk }) ho hex hd hf (by lia) ?_;exact⟨.int (ks.length:Int),H1,I1.kept (h':=h2) k2,⟨_,by rw[le]⟩,q ks.length z1 z2⟩
end
end L2
namespace L2
open PySem PySem.Spec PyProof.Rows PySem.W
section
variable {prog:Program} {w:World} {A:Around} {E:Value->Shared->Prop} {s:Shared}
def V9:Value->Prop
 | .int _ _=>True
 | .str _ _=>True
 | _=>False
theorem C7 {Q:Bool->Shared->Prop}:∀ {xs:List Value} (i:Nat),(∀ v∈xs,V9 v)->Q false s->KatLex prog w A true false Q (xs.zip xs) i s
 | [],i,_,h=>kat_nil h
 | v::xs,i,p,h=>by
  have ih:=C7 (xs:=xs) (i+1) (fun u hu=>p u (zAd _ hu)) h;have pv:=p v zAk;rw[List.zip_cons_cons];cases v with
  | int n t=>
   refine kat_cons (wpAny_eqBool_int ?_);rw[beq_self_eq_true];exact kat_yes ih
  | str n t=>
   refine kat_cons (wpAny_eqBool_str ?_);rw[decide_eq_true rfl];exact kat_yes ih
  | _=>exact pv.elim
def TupW (h:Heap):List Value->List Int->Prop
 | [],[]=>True
 | v::vs,r::rs=>(∃ (t:Addr) (u:Tok) (more:List Value),v = .ref t/\IsTup h t (Value.int r u::more).toArray/\∀ z∈more,V9 z)/\TupW h vs rs
 | _,_=>False
theorem TupW.keep {h h':Heap} (kp:∀ b o,h.get? b=some o->h'.get? b=some o):∀ {vs:List Value} {rs:List Int},TupW h vs rs->TupW h' vs rs
 | [],[],_=>trivial
 | [],_::_,z=>z.elim
 | _::_,[],z=>z.elim
 | v::vs,r::rs,⟨⟨t,u,m,e,⟨o,ho,hc⟩,z⟩,q⟩=>⟨⟨t,u,m,e,⟨o,kp _ _ ho,hc⟩,z⟩,q.keep kp⟩
theorem TupW.at {h:Heap}:∀ {vs:List Value} {rs:List Int} {i:Nat},TupW h vs rs->i<vs.length->∃ (t:Addr) (u:Tok) (more:List Value),vs.getD i Value.none = .ref t/\IsTup h t (Value.int (rs.getD i 0) u::more).toArray/\∀ z∈more,V9 z
 | [],[],_,_,z=>by simp at z
 | [],_::_,_,z,_=>z.elim
 | _::_,[],_,z,_=>z.elim
 | v::vs,r::rs,0,⟨⟨t,u,m,e,z⟩,q⟩,_=>⟨t,u,m,e,z⟩
 | v::vs,r::rs,i+1,⟨_,q⟩,l=>q.at (i:=i) (by simpa using l)
theorem TupW.len {h:Heap}:∀ {vs:List Value} {rs:List Int},TupW h vs rs->vs.length=rs.length
 | [],[],_=>rfl
 | [],_::_,z=>z.elim
 | _::_,[],z=>z.elim
 | v::vs,r::rs,z=>by rw[zAg,zAg,z.2.len]
theorem TupW.firsts {h:Heap}:∀ {vs:List Value} {rs:List Int},TupW h vs rs->∃ fs:List Value,KatTups h vs fs/\fs.length=vs.length/\∀ v∈fs,∃ (n:Int) (t:Tok),v = .int n t
 | [],[],_=>⟨[],trivial,rfl,fun _ z=>nomatch z⟩
 | [],_::_,z=>z.elim
 | _::_,[],z=>z.elim
 | v::vs,r::rs,⟨⟨t,u,m,e,⟨o,ho,hc,n,hd⟩,pm⟩,q⟩=>by
  obtain⟨fs,h1,h2,h3⟩:=q.firsts;refine⟨.int r u::fs,⟨⟨t,o,_,n,e,ho,hc,hd,by simp⟩,h1⟩,by rw[zAg,zAg,h2],fun y hy=>?_⟩;rcases zAn.mp hy with z | z
  ·exact⟨r,u,z⟩
  ·exact h3 y z
theorem GN {rs:List Int} (nd:rs.Nodup) {i j:Nat} (hi:i<rs.length) (hj:j<rs.length) (e:rs.getD i 0=rs.getD j 0):i=j:=by
 rw[zAr,zAr,zAe hi,zAe hj] at e;have e':rs[i]=rs[j]:=e;rcases zBF i j with c | c | c
 ·exact absurd e' ((zBd.mp nd) i j hi hj c)
 ·exact c
 ·exact absurd e'.symm ((zBd.mp nd) j i hj hi c)
theorem E8 {vs:List Value} {rs:List Int} (T:TupW s.heap vs rs) (nd:rs.Nodup) (two:2<=vs.length):HL prog w A vs LexO (fun i=>[rs.getD i 0]) s:=by
 obtain⟨fs,h1,h2,h3⟩:=T.firsts;have lr:=T.len;refine⟨tuples' (Value.type "int" != Value.type "tuple"),fun Q E q=>kat_kind h1 (by lia) (fun v hv=>?_) rfl q,fun i j hi hj C hC=>?_⟩
 ·obtain⟨n,t,rfl⟩:=h3 v hv
  exact Vv n t
 ·have nb:(Value.type "int" != Value.type "tuple")=true:=by decide +kernel
  rw[nb];obtain⟨t,u,m,e,⟨o,ho,hc,n,hd⟩,pm⟩:=T.at hi;by_cases c:i=j
  ·subst c
   rw[e];refine kat_lt ho hd ho hd ?_;rw[decide_eq_false (zBl _)];rw[show LexO.blt [rs.getD i 0] [rs.getD i 0]=false from Mo _] at hC;refine C7 0 (fun z hz=>?_) hC;rcases zAn.mp hz with y | y
   ·rw[y]; trivial
   ·exact pm z y
  ·obtain⟨t',u',m',e',⟨o',ho',hc',n',hd'⟩,pm'⟩:=T.at hj
   have ne:¬ rs.getD i 0=rs.getD j 0:=fun z=>c (GN nd (by lia) (by lia) z);rw[e,e'];refine kat_lt ho hd ho' hd' ?_;show KatLex prog w A true _ C ((Value.int (rs.getD i 0) u::m).zip (Value.int (rs.getD j 0) u'::m')) 0 s;rw[List.zip_cons_cons];refine kat_cons (wpAny_eqBool_int ?_);rw[show (rs.getD i 0==rs.getD j 0)=false by simpa using ne];refine kat_no (oneLt_int ?_);have eb:LexO.blt [rs.getD i 0] [rs.getD j 0]=decide (rs.getD i 0<rs.getD j 0):=by
    show HT.lexLt [rs.getD i 0] [rs.getD j 0]=_;rw[HT.lexLt_cons,if_neg ne]
   rw[eb] at hC;exact hC
end
def FI:V->Bool
 | .int _=>true
 | .str _=>true
 | _=>false
def TupF (K:zAa) (H:Hp):List V->List Int->Prop
 | [],[]=>True
 | y::ys,r::rs=>(∃ t more,y = .ref t/\SqT K H t (.int r::more)/\more.all FI=true)/\TupF K H ys rs
 | _,_=>False
theorem Tu:∀ {ms:List V} {us:List Value},ms.all FI=true->Vals ms us->∀ z∈us,V9 z
 | _,_,_,.nil,_,h=>nomatch h
 | x::ms,u::us,a,.cons r q,z,h=>by
  rw[zCg,zAv] at a;rcases zAn.mp h with e | e
  ·subst e
   cases x with
   | int n=>obtain⟨t,rfl⟩:=r; trivial
   | str n=>obtain⟨t,rfl⟩:=r; trivial
   | _=>exact absurd a.1 zAm
  ·exact Tu a.2 q z e
section
variable {X:Cx}
theorem TupF.vals {pins:List (Addr×Obj)} {σ:St} {H:Hp} {s:Shared} (I:Inv X pins σ H s):∀ {ys:List V} {rs:List Int} {us:List Value},TupF X.K H ys rs->Vals ys us->TupW s.heap us rs
 | [],[],_,_,.nil=>trivial
 | [],_::_,_,z,_=>z.elim
 | _::_,[],_,z,_=>z.elim
 | y::ys,r::rs,_,⟨⟨t,m,e,h,pm⟩,q⟩,.cons rv rr=>by
  subst e;cases rv;obtain⟨its,rv',p,_⟩:=I.tuple h;cases rv' with
  | cons r1 r2=>
   obtain⟨u,rfl⟩:=r1;exact⟨⟨t,u,_,rfl,p,Tu pm r2⟩,q.vals I rr⟩
def KN (K:zAa):List V->Hp->VK->Prop:=fun xs H Q=>∃ a ys rs,xs=[.ref a]/\SqL K H a ys/\ys.length<64/\TupF K H ys rs/\rs.Nodup /\
 ∀ (l:Addr) (p:Array Nat),H l=none->CRS.Pm ys.length p->CRS.Up (O:=LexO) (fun i=>[rs.getD i 0]) p ys.length->Q (.ref l) (upd H l (.lst (p.toList.map fun i=>ys.getD i .non)))
theorem Yz:Gr X (.builtin "sorted") (KN X.K):=by
 intro pins s σ H xs us Q I r h;obtain⟨a,ys,rs,rfl,hq,l64,T,nd,q⟩:=h;obtain⟨u,rfl,rx⟩:=Jm r;cases rx;obtain⟨its,rv,pl,hz⟩:=I.list hq;have hl:=rv.length;have TV:=T.vals I rv;refine Wu (O:=LexO) (key:=fun i=>[rs.getD i 0]) pl.isList (by lia) (fun A' h' kp two=>E8 (s:={ s with heap:=h' }) (TV.keep kp) nd two) fun p hp hu=>?_;obtain⟨e,he⟩:=sortedAll_at s.heap its (Og its p).toArray;have lp:(p.toList.map fun i=>ys.getD i .non).length<=sizeLine:=by
  rw[zAb,zAC,hp.size]
  lia
 rw[<- hl] at hp hu;exact⟨.ref (s.heap.objs.size+1),_,I.laid (t':=s.toks) (fun b o q=>sortedAll_old q) (zBh _) (show ObjOk X.prog X.w _ _ _ (.lst _) from ⟨lp,Og its p,e,Rr rv _,he⟩),rfl,q _ p (I.hok.fresh (zBh _)) hp hu⟩
end
theorem AI {α:Type} {S:List α} {d:α} {f:α->Int} {p:Array Nat} (hp:CRS.Pm S.length p) (up:CRS.Up (O:=LexO) (fun i=>[(S.map f).getD i 0]) p S.length) (nd:(S.map f).Nodup) :
  (p.toList.map fun i=>S.getD i d).Perm S/\(p.toList.map fun i=>S.getD i d).Pairwise (fun x y=>f x<f y):=by
 have pl:p.toList.Perm (zAL S.length):=by
  have:=zCh.mp hp
  simpa using this
 have e:(zAL S.length).map (fun i=>S.getD i d)=S:=by
  apply List.ext_getElem
  ·simp
  ·intro i h1 h2
   simp [zAr,zAe h2]
 have pm:(p.toList.map fun i=>S.getD i d).Perm S:=by
  have:=pl.map (fun i=>S.getD i d);rw[e] at this;exact this
 refine⟨pm,?_⟩;have nd':((p.toList.map fun i=>S.getD i d).map f).Nodup:=(pm.map f).nodup_iff.mpr nd;have sz:=hp.size;rw[zBd];intro i j hi hj hij;have hi':i<p.size:=by simpa using hi
 have hj':j<p.size:=by simpa using hj
 have u:=up i j (by lia) (by lia);have lt:∀ k (hk:k<p.size),p.getD k 0=p[k]/\p[k]<S.length:=fun k hk=>by
  refine⟨by simp [zCc,hk],?_⟩;have m:p[k]∈p.toList:=by simp
  have:=pl.mem_iff.mp m
  simpa using this
 obtain⟨a1,a2⟩:=lt i hi';obtain⟨b1,b2⟩:=lt j hj';have fa:∀ k (hk:k<S.length),(S.map f).getD k 0=f (S.getD k d):=fun k hk=>by
  simp [zAr,zAs,zAe hk]
 have ne:f (S.getD p[i] d)≠f (S.getD p[j] d):=by
  have:=(zBd.mp (zBt.mp nd')) i j (by simpa using hi') (by simpa using hj') hij
  simpa using this
 have le:¬ LexO.blt [(S.map f).getD (p.getD j 0) 0] [(S.map f).getD (p.getD i 0) 0]=true:=by
  have u':LexO.blt [(S.map f).getD (p.getD j 0) 0] [(S.map f).getD (p.getD i 0) 0]=false:=u;rw[u'];exact zAm
 rw[a1,b1,fa _ a2,fa _ b2] at le;have le':¬ HT.lexLt [f (S.getD p[j] d)] [f (S.getD p[i] d)]=true:=le;rw[HT.lexLt_cons,if_neg ne.symm] at le';have:¬ f (S.getD p[j] d)<f (S.getD p[i] d):=fun z=>le' (decide_eq_true z);simp only [List.getElem_map,Array.getElem_toList]
 lia
end L2
namespace L2
open PySem PySem.Spec PyProof.Rows
theorem Sf {K K':zAa} {a:Addr} {xs:List V} {tc:TT} {te:TE} {σ:St} {ix:List Nat} {QQ:Hp->Prop} {H1:Hp} {p:Addr} (Pv:Nat->List V->Hp->Prop) (h0:Pv 0 [] (upd H1 p (.lst [])))
  (hp:∀ i ys H,i<=xs.length->Pv i ys H->H p=some (.lst ys)/\ys.length<=i/\SqL K H a xs) (hn:xs.length<=sizeLine)
  (hs:∀ i x ys H,xs[i]?=some x->Pv i ys H->∃ t y z u w,x = .ref t/\SqT K' H t [y,z,u,w]/\tc (some y::some z::some u::some w::Ei ix σ) H fun b H5=>if b=true then te (some y::some z::some u::some w::Ei ix σ) H5 fun v H6=>H6 p=some (.lst ys) /\
   (some y::some z::some u::some w::Ei ix σ)=(some y::some z::some u::some w::Ei ix σ)/\Pv (i+1) (ys++[v]) (upd H6 p (.lst (ys++[v]))) else (some y::some z::some u::some w::Ei ix σ)=(some y::some z::some u::some w::Ei ix σ)/\Pv (i+1) ys H5)
  (hd:∀ ys H,Pv xs.length ys H->QQ H) :
  Wk (AZ K' 4 (Kn (Er 0) (Kn (Er 1) (Kn (Er 2) (Kn (Er 3) EE))))) tc te 4 ix σ (KS K a) p H1 QQ:=by
 refine⟨fun i m ys σ2 H2=>m=xs.length-i/\i<=xs.length/\(∃ o o' o2 o3,σ2=o::o'::o2::o3::Ei ix σ)/\Pv i ys H2,⟨xs.length,by simp,zAA _,⟨none,none,none,none,rfl⟩,h0⟩,?_⟩;rintro i m ys σ2 H2 ⟨rfl,hi,⟨o,o',o2,o3,rfl⟩,pv⟩;obtain⟨hp2,hl2,hq2⟩:=hp i ys H2 hi pv;refine⟨hp2,?_⟩;by_cases hlt:i<xs.length
 ·refine .inr ⟨⟨xs,xs[i],hq2,by simp [hlt]⟩,by lia,fun x H3 yy=>?_⟩
  obtain⟨e,yy⟩:=yy;subst e;obtain⟨t,y,z,u,w,ex,ht,q⟩:=hs i x ys _ (yy xs hq2) pv;subst ex;refine⟨fun ys' σ' H'=>σ'=(some y::some z::some u::some w::Ei ix σ)/\Pv (i+1) ys' H',fun ys' σ' H' ⟨e,q⟩=>⟨xs.length-(i+1),by lia,rfl,hlt,⟨_,_,_,_,e⟩,q⟩,?_⟩;exact⟨t,_,rfl,ht,rfl,_,_,rfl,_,_,rfl,_,_,rfl,_,_,rfl,rfl,q⟩
 ·obtain rfl:i=xs.length:=by lia
  exact .inl ⟨⟨xs,hq2,zAl _⟩,hd ys H2 pv⟩
def ID (K:zAa):R2:=fun x y H Q=>(y = .non/\(∃ a xs,x = .ref a/\SqT K H a xs)/\Q (.bl false) H)\/ME K false x y H Q
theorem DB {X:Cx} (hu:X.A.units+64<cLine):Lh X (compareOp .Eq) (ID X.K):=by
 intro pins s σ H x y v u Q I rx ry h;rcases h with ⟨rfl,⟨a,xs,rfl,ht⟩,q⟩ | h
 ·cases rx
  cases ry
  obtain⟨its,_,p,_⟩:=I.tuple ht;exact SeqAt.RcAt.tuple_none p (by lia) X.prog X.w _ _ ⟨.bl false,H,I,rfl,q⟩
 ·exact OB false hu pins s σ H x y v u Q I rx ry h
theorem HK {X:Cx} {K:zAa} (hu:X.A.units+64<cLine) (hK:X.K=K:=by rfl):Lh X (compareOp .Eq) (ID K):=hK▸DB hu
def TsAt {α:Type} (f:α->List V) (H:Hp):List V->List α->Prop
 | [],[]=>True
 | x::xs,z::zs=>(∃ t,x = .ref t/\H t=some (.tup (f z)))/\TsAt f H xs zs
 | _,_=>False
section
variable {α:Type} {f:α->List V}
theorem TsAt.len {H:Hp}:∀ {xs:List V} {zs:List α},TsAt f H xs zs->xs.length=zs.length
 | [],[],_=>rfl
 | [],_::_,h=>h.elim
 | _::_,[],h=>h.elim
 | x::xs,p::ps,h=>by rw[zAg,zAg,TsAt.len h.2]
theorem TsAt.mono {H H':Hp} (s:∀ t ws,H t=some (.tup ws)->H' t=some (.tup ws)):∀ {xs:List V} {zs:List α},TsAt f H xs zs->TsAt f H' xs zs
 | [],[],_=>trivial
 | [],_::_,h=>h.elim
 | _::_,[],h=>h.elim
 | x::xs,p::ps,⟨⟨t,e,h⟩,r⟩=>⟨⟨t,e,s _ _ h⟩,TsAt.mono s r⟩
theorem TsAt.snoc {H:Hp}:∀ {xs:List V} {zs:List α} {t:Addr} {z:α},TsAt f H xs zs->H t=some (.tup (f z))->TsAt f H (xs++[.ref t]) (zs++[z])
 | [],[],t,_,_,h=>⟨⟨t,rfl,h⟩,trivial⟩
 | [],_::_,_,_,r,_=>r.elim
 | _::_,[],_,_,r,_=>r.elim
 | x::xs,p::ps,_,_,⟨z,r⟩,h=>⟨z,TsAt.snoc r h⟩
theorem TsAt.get {H:Hp}:∀ {xs:List V} {zs:List α} {i:Nat} {x:V},TsAt f H xs zs->xs[i]?=some x->∃ t z,zs[i]?=some z/\x = .ref t/\H t=some (.tup (f z))
 | [],[],_,_,_,e=>by simp at e
 | [],_::_,_,_,h,_=>h.elim
 | _::_,[],_,_,h,_=>h.elim
 | x::xs,p::ps,0,y,⟨⟨t,e,h⟩,r⟩,q=>by
  simp at q;subst q;exact⟨t,p,rfl,e,h⟩
 | x::xs,p::ps,i+1,y,⟨_,r⟩,q=>by
  obtain⟨t,p',h1,h2⟩:=TsAt.get (i:=i) r (by simpa using q);exact⟨t,p',by simpa using h1,h2⟩
theorem TsAt.at {H:Hp} {xs:List V} {zs:List α} {i:Nat} {z:α} (h:TsAt f H xs zs) (e:zs[i]?=some z):∃ t,xs[i]?=some (.ref t)/\H t=some (.tup (f z)):=by
 have hi:i<xs.length:=by rw[h.len]; exact (zAj.mp e).1
 obtain⟨t,z',e',ex,ht⟩:=h.get (zAe hi);rw[e] at e';cases e';exact⟨t,by rw[zAe hi,ex],ht⟩
end
section
variable {prog:Program} {w:World} {A:Around} {E:Value->Shared->Prop} {s:Shared} {d v it:Addr} {ob:Obj} {es:Array DictEntry} {ep:Nat}
end
section
variable {X:Cx} {pins:List (Addr×Obj)} {σ:St} {H:Hp} {s:Shared} {a:Addr} {u u':HO} {ob:Obj}
end
structure DfIn (K:zAa) (x:Str) (st:Stmt) (f:Addr):Prop where
 ns:zAF K zCz x=some (some (.ref f))
 ex:∃ (od an:Option Addr) (sl:Array (Option Value)) (oc kV dc pm cd ct:Value),K.lookup f=some ⟨oc,od,.func (zAV x x (Dk st) (De st) (Ar st) .none kV dc pm an cd ct),sl⟩/\zBm K cd x=true
 kp:zAQ K (.ref f)=true
structure MtIn (K:zAa) (x qual:Str) (st:Stmt) (f:Addr):Prop where
 fn:zCm K (.ref f)=true
 ex:∃ (od an:Option Addr) (sl:Array (Option Value)) (oc kV dc pm cd ct:Value),K.lookup f=some ⟨oc,od,.func (zAV x qual (Dk st) (De st) (Ar st) .none kV dc pm an cd ct),sl⟩/\zBm K cd qual=true
 kp:zAQ K (.ref f)=true
structure ClIn (K:zAa) (x:Str) (C:Addr):Prop where
 ns:zAF K zCz x=some (some (.ref C))
 pg:zBZ K C Str.empty=true
 hd:zCp K C=true
 po:PySem.W.plainOver K C=true
 sa:zAc K (.ref C) "__setattr__" = some (some (.builtin "object.__setattr__"))
 mi:zCk K C=true
 kp:zAQ K (.ref C)=true
theorem ClIn.cl {K:zAa} {x:Str} {C:Addr} (c:ClIn K x C):Cls K C:=⟨c.pg,c.hd,c.po,c.sa⟩
section
variable {K:zAa} {h:Heap} {mg:Str->Option Value} {x qual:Str} {st:Stmt} {f:Addr} {ps:List Str}
theorem DfIn.df (d:DfIn K x st f) (X:K.In h) (G:h.Ns zCz mg)
  (hb:∀ (kV dc pm:Value) (an:Option Addr) (cd ct:Value) (us:List Value),us.length=ps.length->bindArgs (zAV x x (Dk st) (De st) (Ar st) .none kV dc pm an cd ct) ⟨us,[]⟩=pure (ps.zip us)):Def K mg x st ps:=by
 obtain⟨od,an,sl,oc,kV,dc,pm,cd,ct,l,c⟩:=d.ex;have F:=K9 (x:=x) (qual:=x) (st:=st) l c d.kp;exact⟨f,_,F,F.binds hb,zAx X G d.ns⟩
theorem MtIn.get (d:MtIn K x qual st f)
  (hb:∀ (kV dc pm:Value) (an:Option Addr) (cd ct:Value) (us:List Value),us.length=ps.length->bindArgs (zAV x qual (Dk st) (De st) (Ar st) .none kV dc pm an cd ct) ⟨us,[]⟩=pure (ps.zip us)):∃ fd,Fun K x qual st f fd/\Binds K fd ps []:=by
 obtain⟨od,an,sl,oc,kV,dc,pm,cd,ct,l,c⟩:=d.ex;have F:=K9 (x:=x) (qual:=qual) (st:=st) l c d.kp;exact⟨_,F,F.binds hb⟩
end
section
variable {Pr:List Value->Prop}
theorem G9 (h:∀ a,Pr [a]):∀ us,us.length=1->Pr us
 | [a],_=>h a
theorem Jn (h:∀ a b,Pr [a,b]):∀ us,us.length=2->Pr us
 | [a,b],_=>h a b
theorem Zt (h:∀ a b c,Pr [a,b,c]):∀ us,us.length=3->Pr us
 | [a,b,c],_=>h a b c
theorem HS (h:∀ a b c d,Pr [a,b,c,d]):∀ us,us.length=4->Pr us
 | [a,b,c,d],_=>h a b c d
theorem OM (h:∀ a b c d e,Pr [a,b,c,d,e]):∀ us,us.length=5->Pr us
 | [a,b,c,d,e],_=>h a b c d e
end
theorem vE {α β:Type} {f:α->β} {y:β} {v:α} {R:α->Prop} (e:y=f v) (h:R v):∃ x,y=f x/\R x:=⟨v,e,h⟩
theorem DfIn.of {K:zAa} {x:Str} {st:Stmt} {f:Addr} {od an:Option Addr} {sl:Array (Option Value)} {oc kV dc pm cd ct:Value} (n:zAF K zCz x=some (some (.ref f))) (l:K.lookup f=some ⟨oc,od,.func (zAV x x (Dk st) (De st) (Ar st) .none kV dc pm an cd ct),sl⟩) (c:zBm K cd x=true) (k:zAQ K (.ref f)=true):DfIn K x st f:=⟨n,⟨od,an,sl,oc,kV,dc,pm,cd,ct,l,c⟩,k⟩
theorem MtIn.of {K:zAa} {x qual:Str} {st:Stmt} {f:Addr} {od an:Option Addr} {sl:Array (Option Value)} {oc kV dc pm cd ct:Value} (n:zCm K (.ref f)=true) (l:K.lookup f=some ⟨oc,od,.func (zAV x qual (Dk st) (De st) (Ar st) .none kV dc pm an cd ct),sl⟩) (c:zBm K cd qual=true) (k:zAQ K (.ref f)=true):MtIn K x qual st f:=⟨n,⟨od,an,sl,oc,kV,dc,pm,cd,ct,l,c⟩,k⟩
theorem vF {α β γ δ:Type} {f:α->β} {g : γ -> δ} {x:β} {y:δ} {a:α} {b : γ} {R:α -> γ -> Prop} (e:x=f a) (e':y=g b) (h:R a b):∃ i j,x=f i/\y=g j/\R i j:=⟨a,b,e,e',h⟩
theorem vI {x y:V} {A:Addr->List V->Prop} {B:List V->Int->V->Prop} {R:V->Prop} {p:Addr} {xs:List V} {i:Int} {v:V} (e:x = .ref p) (e':y = .int i) (a:A p xs) (b:B xs i v) (h:R v):∃ p xs i v,x = .ref p/\y = .int i/\A p xs/\B xs i v/\R v:=⟨p,xs,i,v,e,e',a,b,h⟩
theorem vC {α:Type} {l:List α} {a:α} {t:List α} {R:α->List α->Prop} (e:l=a::t) (h:R a t):∃ v r,l=v::r/\R v r:=⟨a,t,e,h⟩
end L2
namespace CRP
abbrev Tr3:=Int×Int×Int
def fwFrom:List (Int×Int)->Int->Int->Int
 | [],_,_ => -1
 | (a,b)::r,k,c=>if c<a\/b<=c then k else fwFrom r (k+1) c
def fw (sp:List (Int×Int)) (c:Int):Int:=fwFrom sp 0 c
theorem R3 {l c:Int} (h:l<=c):∀ (sp:List (Int×Int)) (k:Int),(∀ p∈sp,¬ (l<p.1/\p.1<=c)/\¬ (l<p.2/\p.2<=c))->fwFrom sp k c=fwFrom sp k l
 | [],_,_=>rfl
 | (a,b)::r,k,no=>by
  have ih:=R3 h r (k+1) fun p hp=>no p (zAd _ hp);obtain⟨n1,n2⟩:=no (a,b) zAk;unfold fwFrom
  dsimp only at n1 n2
  by_cases z:c<a\/b<=c
  ·rw[if_pos z,if_pos (by lia)]
  ·rw[if_neg z,if_neg (by lia),ih]
def Gb:List Tr3->Int->Int->Int->List Tr3
 | [],lo,hi,k=>[(lo,hi,k)]
 | [(l,h,k')],lo,hi,k=>if k'=k then [(l,hi,k)] else [(l,h,k'),(lo,hi,k)]
 | x::y::r,lo,hi,k=>x::Gb (y::r) lo hi k
theorem stepP_snoc (l h k' lo hi k:Int):∀ init:List Tr3,Gb (init++[(l,h,k')]) lo hi k=if k'=k then init++[(l,hi,k)] else init++[(l,h,k')]++[(lo,hi,k)]
 | []=>by
  show Gb [(l,h,k')] lo hi k=_;unfold Gb;by_cases z:k'=k
  ·rw[if_pos z,if_pos z]; rfl
  ·rw[if_neg z,if_neg z]; rfl
 | [x]=>by
  have ih:=stepP_snoc l h k' lo hi k [];show x::Gb [(l,h,k')] lo hi k=_;rw[show Gb [(l,h,k')] lo hi k=_ from ih];by_cases z:k'=k
  ·rw[if_pos z,if_pos z]; rfl
  ·rw[if_neg z,if_neg z]; rfl
 | x::y::r=>by
  have ih:=stepP_snoc l h k' lo hi k (y::r);show x::Gb (y::r++[(l,h,k')]) lo hi k=_;rw[ih];by_cases z:k'=k
  ·rw[if_pos z,if_pos z]; rfl
  ·rw[if_neg z,if_neg z]; rfl
def Ch (f:Int->Int):Int->Option Int->List Tr3->Int->Prop
 | s,_,[],e=>s=e
 | s,lk,(l,h,k)::r,e=>l=s/\l<h/\lk≠some k/\(∀ c,l<=c->c<h->f c=k)/\Ch f h (some k) r e
theorem Ch.step {f:Int->Int} {hi k:Int}:∀ {told:List Tr3} {s:Int} {lk:Option Int} {e:Int},Ch f s lk told e->e<hi->(∀ c,e<=c->c<hi->f c=k)->(told=[]->lk≠some k)->Ch f s lk (Gb told e hi k) hi
 | [],s,lk,e,h,h1,h2,h3=>by
  have e':s=e:=h;subst e';exact⟨rfl,h1,h3 rfl,h2,rfl⟩
 | [(l,h,k')],s,lk,e,⟨a1,a2,a3,a4,a5⟩,h1,h2,h3=>by
  have e':h=e:=a5;subst e';unfold Gb;by_cases z:k'=k
  ·rw[if_pos z]
   refine⟨a1,by lia,by rw[<- z]; exact a3,fun c c1 c2=>?_,rfl⟩;by_cases q:c<h
   ·rw[a4 c c1 q,z]
   ·exact h2 c (by lia) c2
  ·rw[if_neg z]
   exact⟨a1,a2,a3,a4,rfl,h1,fun q=>z (Option.some.inj q),h2,rfl⟩
 | (l,h,k')::y::r,s,lk,e,⟨a1,a2,a3,a4,a5⟩,h1,h2,h3=>by
  unfold Gb;exact⟨a1,a2,a3,a4,Ch.step (told:=y::r) a5 h1 h2 fun z=>by cases z⟩
def foldP (sp:List (Int×Int)) (ms:List Int) (i:Nat):List Tr3:=(zAL i).foldl (fun told j=>Gb told (ms.getD j 0) (ms.getD (j+1) 0) (fw sp (ms.getD j 0))) []
theorem foldP_succ (sp:List (Int×Int)) (ms:List Int) (i:Nat):foldP sp ms (i+1)=Gb (foldP sp ms i) (ms.getD i 0) (ms.getD (i+1) 0) (fw sp (ms.getD i 0)):=by
 unfold foldP;rw[zBO,List.foldl_append];rfl
theorem Wc (lo hi k:Int):∀ told:List Tr3,(Gb told lo hi k).length<=told.length+1
 | []=>by unfold Gb; simp
 | [(l,h,k')]=>by unfold Gb; split <;> simp
 | x::y::r=>by
  have:=Wc lo hi k (y::r);unfold Gb;simp only [zAg] at *
  lia
theorem foldP_len (sp:List (Int×Int)) (ms:List Int):∀ i,(foldP sp ms i).length<=i
 | 0=>zAA _
 | i+1=>by
  rw[foldP_succ];have:=foldP_len sp ms i;have:=Wc (ms.getD i 0) (ms.getD (i+1) 0) (fw sp (ms.getD i 0)) (foldP sp ms i)
  lia
theorem get_lt {ms:List Int} (h:ms.Pairwise (· < ·)) {i j:Nat} (hij:i<j) (hj:j<ms.length):ms.getD i 0<ms.getD j 0:=by
 rw[zAr,zAr,zAe (by lia),zAe hj];exact zBd.mp h i j (by lia) hj hij
theorem fold_ch {sp:List (Int×Int)} {ms:List Int} (h:ms.Pairwise (· < ·)) (hb:∀ p∈sp,p.1∈ms/\p.2∈ms):∀ i,i<ms.length->ms.getD 0 0=0->Ch (fw sp) 0 none (foldP sp ms i) (ms.getD i 0)
 | 0,_,h0=>h0.symm
 | i+1,hi,h0=>by
  have ih:=fold_ch h hb i (by lia) h0;rw[foldP_succ];refine ih.step (get_lt h (zBz _) hi) (fun c c1 c2=>?_) (fun _ z=>by cases z);refine R3 c1 sp 0 fun p hp=>?_;have no:∀ y∈ms,¬ (ms.getD i 0<y/\y<=c):=fun y hy ⟨z1,z2⟩=>by
   obtain⟨j,hj,e⟩:=zAX hy;have ej:ms.getD j 0=y:=by rw[zAr,zAe hj]; exact e
   rcases zBF j (i+1) with q | q | q
   ·rcases Nat.lt_or_ge j i with q' | q'
    ·have:=get_lt h q' (by lia); lia
    ·have:j=i:=by lia
     subst this; lia
   ·subst q; lia
   ·have:=get_lt h q hj; lia
  exact⟨no _ (hb p hp).1,no _ (hb p hp).2⟩
theorem Ch.head {f:Int->Int} {s:Int} {lk:Option Int} {e:Int}:∀ {ps:List Tr3},Ch f s lk ps e->s<e->∃ p,ps[0]?=some p/\p.1=s
 | [],h,z=>absurd (show s=e from h) (by lia)
 | (l,hh,k)::r,h,_=>⟨_,rfl,h.1⟩
theorem Ch.get {f:Int->Int}:∀ {ps:List Tr3} {s:Int} {lk:Option Int} {e:Int} {i:Nat} {p:Tr3},Ch f s lk ps e->ps[i]?=some p->p.1<p.2.1/\(∀ c,p.1<=c->c<p.2.1->f c=p.2.2)/\(p.2.1<e->∃ q,ps[i+1]?=some q/\q.1=p.2.1)/\s<=p.1/\p.2.1<=e
 | [],_,_,_,_,_,_,z=>by simp at z
 | (l,h,k)::r,s,lk,e,0,p,⟨a1,a2,a3,a4,a5⟩,z=>by
  simp at z;subst z;refine⟨a2,a4,fun q=>?_,by show s<=l; lia,?_⟩
  ·obtain⟨p,h1,h2⟩:=a5.head q
   exact⟨p,by simpa using h1,h2⟩
  ·show h<=e
   cases r with
   | nil=>exact Int.le_of_eq (show h=e from a5)
   | cons x r=>
    have:=Ch.get (i:=0) a5 rfl
    lia
 | (l,h,k)::r,s,lk,e,i+1,p,⟨a1,a2,a3,a4,a5⟩,z=>by
  obtain⟨b1,b2,b3,b4,b5⟩:=Ch.get (i:=i) a5 (by simpa using z);refine⟨b1,b2,fun q=>?_,by lia,b5⟩;obtain⟨y,h1,h2⟩:=b3 q;exact⟨y,by simpa using h1,h2⟩
end CRP
namespace CR
abbrev Rn:=Int×Int
def inR (ps:List Rn) (n:Int):Bool:=ps.any fun p=>decide (p.1<=n)&&decide (n<p.2)
structure Frm (ps:List Rn):Prop where
 lt:∀ p∈ps,p.1<p.2
 pw:ps.Pairwise fun p q=>p.2<q.1
theorem inR_iff {ps:List Rn} {n:Int}:inR ps n=true↔∃ p∈ps,p.1<=n/\n<p.2:=by
 unfold inR;rw[List.any_eq_true];constructor
 ·rintro ⟨p,hp,h⟩
  rw[zAv,decide_eq_true_eq,decide_eq_true_eq] at h;exact⟨p,hp,h⟩
 ·rintro ⟨p,hp,h⟩
  exact⟨p,hp,by rw[zAv,decide_eq_true_eq,decide_eq_true_eq]; exact h⟩
theorem Rj (ps qs:List Rn) (n:Int):inR (ps++qs) n=(inR ps n||inR qs n):=by unfold inR; rw[List.any_append]
theorem Gi {a b:Bool} (h:a=true↔b=true):a=b:=by cases a <;> cases b <;> simp_all
def cutM (lo hi:Int) (p:Rn):Rn:=(if lo>p.1 then lo else p.1,if hi<p.2 then hi else p.2)
def cutW (ps:List Rn) (lo hi:Int):List Rn:=(ps.map (cutM lo hi)).filter fun p=>decide (p.1<p.2)
theorem cutW_in (ps:List Rn) (lo hi n:Int):inR (cutW ps lo hi) n=(inR ps n&&(decide (lo<=n)&&decide (n<hi))):=by
 apply Gi;rw[zAv,zAv,decide_eq_true_eq,decide_eq_true_eq,inR_iff,inR_iff];constructor
 ·rintro ⟨p,hp,h1,h2⟩
  obtain⟨hp,_⟩:=zAT.mp hp;obtain⟨q,hq,rfl⟩:=zAD.mp hp;unfold cutM at h1 h2;refine⟨⟨q,hq,?_,?_⟩,?_,?_⟩ <;> (simp only at h1 h2; split at h1 <;> split at h2 <;> omega)
 ·rintro ⟨⟨q,hq,h1,h2⟩,h3,h4⟩
  refine⟨cutM lo hi q,zAT.mpr ⟨zAD.mpr ⟨q,hq,rfl⟩,?_⟩,?_,?_⟩
  ·rw[decide_eq_true_eq]; unfold cutM; simp only; split <;> split <;> omega
  ·unfold cutM; simp only; split <;> omega
  ·unfold cutM; simp only; split <;> omega
theorem Kr {ps:List Rn} (lo hi:Int) (h:ps.Pairwise fun p q=>p.2<q.1):Frm (cutW ps lo hi):=by
 refine⟨fun p hp=>?_,?_⟩
 ·exact of_decide_eq_true (zAT.mp hp).2
 ·refine List.Pairwise.filter _ ?_
  rw[zBG];refine h.imp ?_;intro p q h;unfold cutM;simp only
  split <;> split <;> lia
def below (ps:List Rn) (m:Int):Int:=(ps.map fun p=>if p.1<m then (if m<p.2 then m else p.2)-p.1 else 0).sum
def lowW:List Rn->Int->List Rn
 | [],_=>[]
 | p::ps,n=>(if 0<n then [(p.1,if p.1+n<p.2 then p.1+n else p.2)] else [])++lowW ps (n-(p.2-p.1))
theorem Ma (p:Rn) (ps:List Rn) (m:Int):below (p::ps) m=(if p.1<m then (if m<p.2 then m else p.2)-p.1 else 0)+below ps m:=by
 unfold below; rw[zAK,List.sum_cons]
theorem DX:∀ {ps:List Rn} (m:Int),(∀ p∈ps,p.1<p.2)->0<=below ps m
 | [],_,_=>by unfold below; simp
 | p::ps,m,h=>by
  have ih:=DX (ps:=ps) m fun q hq=>h q (zAd _ hq);have:=h p zAk;rw[Ma]
  split
  ·split <;> lia
  ·lia
theorem Rv:∀ {ps:List Rn} {m:Int},(∀ p∈ps,m<=p.1)->below ps m=0
 | [],_,_=>by unfold below; simp
 | p::ps,m,h=>by
  have ih:=Rv (ps:=ps) (m:=m) fun q hq=>h q (zAd _ hq);have:=h p zAk;rw[Ma,ih]
  split <;> lia
theorem Vu:∀ {ps:List Rn} {n:Int},(∀ p∈ps,p.1<p.2)->n<=0->lowW ps n=[]
 | [],_,_,_=>rfl
 | p::ps,n,h,hn=>by
  have:=h p zAk;unfold lowW;rw[if_neg (by lia),Vu (ps:=ps) (fun q hq=>h q (zAd _ hq)) (by lia)];rfl
theorem X5:∀ {ps:List Rn},Frm ps->∀ n m:Int,inR (lowW ps n) m=(inR ps m&&decide (below ps m<n))
 | [],_,n,m=>by simp [lowW,inR]
 | p::ps,f,n,m=>by
  have hp:=f.lt p zAk;have f':Frm ps:=⟨fun q hq=>f.lt q (zAd _ hq),(zAS.mp f.pw).2⟩;have hq:=(zAS.mp f.pw).1;have ih:=X5 f' (n-(p.2-p.1)) m;unfold lowW;rw[Rj,ih,Ma];have e:inR (p::ps) m=(inR [p] m||inR ps m):=Rj [p] ps m;rw[e];have one:∀ q:Rn,inR [q] m=(decide (q.1<=m)&&decide (m<q.2)):=fun q=>by simp [inR]
  by_cases hm:m<p.2
  ·-- nothing behind p is concerned
   have b0:below ps m=0:=Rv fun q h=>by have:=hq q h; lia
   have r0:inR ps m=false:=by
    apply zBa.mpr;intro h;obtain⟨q,h1,h2,_⟩:=inR_iff.mp h;have:=hq q h1
    lia
   rw[b0,r0,one,zBH,Bool.or_false,Bool.or_false];apply Gi;by_cases hn:0<n
   ·rw[if_pos hn,one]
    simp only [zAv,decide_eq_true_eq];constructor
    ·rintro ⟨h1,h2⟩
     split at h2 <;> (refine⟨⟨h1,hm⟩,?_⟩; split <;> (try split) <;> lia)
    ·rintro ⟨⟨h1,h2⟩,h3⟩
     refine⟨h1,?_⟩
     split at h3
     ·split <;> lia
     ·split <;> lia
   ·rw[if_neg hn]
    simp only [zAv,decide_eq_true_eq];constructor
    ·intro h; exact absurd h (by simp [inR])
    ·rintro ⟨⟨h1,h2⟩,h3⟩
     split at h3 <;> (try split at h3) <;> lia
  ·have e1:inR [p] m=false:=by rw[one]; simp; lia
   have e2:inR (if 0<n then [(p.1,if p.1+n<p.2 then p.1+n else p.2)] else []) m=false:=by
    split
    ·rw[one]; simp only [Bool.and_eq_false_iff,decide_eq_false_iff_not]; right; split <;> lia
    ·rfl
   rw[e1,e2,Bool.false_or,Bool.false_or,if_pos (by lia),if_neg (by lia)]
   congr 1
   apply Gi;rw[decide_eq_true_eq,decide_eq_true_eq]
   lia
theorem D8:∀ {ps:List Rn} {n:Int} {q:Rn},q∈lowW ps n->∃ p∈ps,q.1=p.1/\q.2<=p.2
 | [],_,_,h=>by simp [lowW] at h
 | p::ps,n,q,h=>by
  unfold lowW at h;rcases zAz.mp h with h | h
  ·split at h
   ·rw[zAo] at h
    subst h;refine⟨p,zAk,rfl,?_⟩;simp only
    split <;> lia
   ·cases h
  ·obtain⟨r,hr,h1,h2⟩:=D8 h
   exact⟨r,zAd _ hr,h1,h2⟩
theorem D1:∀ {ps:List Rn} (n:Int),Frm ps->Frm (lowW ps n)
 | [],_,_=>⟨fun _ h=>(nomatch h),.nil⟩
 | p::ps,n,f=>by
  have hp:=f.lt p zAk;have f':Frm ps:=⟨fun q hq=>f.lt q (zAd _ hq),(zAS.mp f.pw).2⟩;have hq:=(zAS.mp f.pw).1;have ih:=D1 (n-(p.2-p.1)) f';unfold lowW
  split
  ·refine⟨fun q h=>?_,?_⟩
   ·rcases zAz.mp h with h | h
    ·rw[zAo] at h
     subst h;simp only
     split <;> lia
    ·exact ih.lt q h
   ·rw[List.singleton_append,zAS]
    refine⟨fun q h=>?_,ih.pw⟩;obtain⟨r,hr,h1,_⟩:=D8 h;have:=hq r hr;simp only
    split <;> lia
  ·exact ih
theorem lowW_len:∀ (ps:List Rn) (n:Int),(lowW ps n).length<=ps.length
 | [],_=>zAl _
 | p::ps,n=>by
  have:=lowW_len ps (n-(p.2-p.1));unfold lowW;rw[zAi,zAg]
  split <;> simp <;> lia
def maxI (a b:Int):Int:=if b>a then b else a
def minI (a b:Int):Int:=if b<a then b else a
def leftW (e:Int):Int->List Rn->List Rn
 | b,[]=>if b<e then [(b,e)] else []
 | b,q::qs=>(if b<minI q.1 e then [(b,minI q.1 e)] else [])++leftW e (maxI b q.2) qs
def outW (ps qs:List Rn):List Rn:=(ps.map fun p=>leftW p.2 p.1 qs).flatten
theorem Ua (e:Int):∀ {qs:List Rn},(∀ q∈qs,q.1<q.2)->(qs.Pairwise fun p q=>p.2<q.1)->∀ b m:Int,inR (leftW e b qs) m=((decide (b<=m)&&decide (m<e)) && !inR qs m)
 | [],_,_,b,m=>by
  unfold leftW;apply Gi
  split <;> simp [inR] <;> omega
 | q::qs,hl,hw,b,m=>by
  have hq:=hl q zAk;have hp:=(zAS.mp hw).1;have ih:=Ua e (fun q h=>hl q (zAd _ h)) (zAS.mp hw).2 (maxI b q.2) m;unfold leftW;have eq:inR (q::qs) m=(inR [q] m||inR qs m):=Rj [q] qs m;rw[Rj,ih,eq];have one:∀ q:Rn,inR [q] m=(decide (q.1<=m)&&decide (m<q.2)):=fun q=>by simp [inR]
  rw[one];have mn:∀ x,x<minI q.1 e↔x<q.1/\x<e:=fun x=>by unfold minI; split <;> omega
  have e1:inR (if b<minI q.1 e then [(b,minI q.1 e)] else []) m=(decide (b<=m)&&(decide (m<q.1)&&decide (m<e))):=by
   apply Gi;by_cases hb:b<minI q.1 e
   ·rw[if_pos hb,one]
    simp only [zAv,decide_eq_true_eq];rw[mn]
   ·rw[if_neg hb]
    simp only [zAv,decide_eq_true_eq];constructor
    ·intro h; exact absurd h (by simp [inR])
    ·intro h
     exact absurd ((mn b).mpr ⟨by omega,by omega⟩) hb
  rw[e1];have far:m<q.1->inR qs m=false:=fun h=>by
   apply zBa.mpr;intro h';obtain⟨r,h1,h2,_⟩:=inR_iff.mp h';have:=hp r h1;omega
  have mx:∀ x,maxI b q.2<=x↔b<=x/\q.2<=x:=fun x=>by unfold maxI; split <;> omega
  apply Gi;rw[Bool.or_eq_true];simp only [zAv,decide_eq_true_eq,zBp,Bool.or_eq_false_iff,Bool.and_eq_false_iff,decide_eq_false_iff_not];rw[mx];constructor
  ·rintro (⟨h1,h2,h3⟩ | ⟨⟨⟨h1,h2⟩,h3⟩,h4⟩)
   ·exact⟨⟨h1,h3⟩,.inl (by omega),far h2⟩
   ·exact⟨⟨h1,h3⟩,.inr (by omega),h4⟩
  ·rintro ⟨⟨h1,h2⟩,h3,h4⟩
   by_cases h5:m<q.1
   ·exact .inl ⟨h1,h5,h2⟩
   ·refine .inr ⟨⟨⟨h1,?_⟩,h2⟩,h4⟩
    rcases h3 with h3 | h3 <;> omega
set_option tactic.hygienic true in
theorem Id (e:Int):∀ {qs:List Rn} {b:Int} {r:Rn},r∈leftW e b qs->b<=r.1/\r.1<r.2/\r.2<=e
 | [],b,r,h=>by
  unfold leftW at h
  split at h
  ·rw[zAo] at h; subst h; simp only; lia
  ·cases h
 | q::qs,b,r,h=>by
  unfold leftW at h;rcases zAz.mp h with h | h
  ·split at h
   ·rw[zAo] at h; subst h; rename_i hh; simp only; refine⟨Int.le_refl _,hh,?_⟩; unfold minI; split <;> lia
   ·cases h
  ·have:=Id e h
   have hx:b<=maxI b q.2:=by unfold maxI; split <;> lia
   lia
theorem F5 (e:Int):∀ {qs:List Rn},(∀ q∈qs,q.1<q.2)->∀ b:Int,(leftW e b qs).Pairwise fun p q=>p.2<q.1
 | [],_,b=>by unfold leftW; split <;> simp
 | q::qs,hl,b=>by
  have hq:=hl q zAk;have ih:=F5 e (fun q h=>hl q (zAd _ h)) (maxI b q.2);unfold leftW
  split
  ·rw[List.singleton_append,zAS]
   refine⟨fun r h=>?_,ih⟩;have h1:=Id e h;have hx:q.2<=maxI b q.2:=by unfold maxI; split <;> lia
   simp only;have:minI q.1 e<=q.1:=by unfold minI; split <;> lia
   lia
  ·exact ih
theorem outW_in {ps qs:List Rn} (fq:Frm qs) (m:Int):inR (outW ps qs) m=(inR ps m && !inR qs m):=by
 apply Gi;rw[zAv,zBp,inR_iff,inR_iff];unfold outW;constructor
 ·rintro ⟨r,hr,h1,h2⟩
  obtain⟨l,hl,hr⟩:=zCe.mp hr;obtain⟨p,hp,rfl⟩:=zAD.mp hl;have z:inR (leftW p.2 p.1 qs) m=true:=inR_iff.mpr ⟨r,hr,h1,h2⟩;rw[Ua p.2 fq.lt fq.pw] at z;simp only [zAv,decide_eq_true_eq,zBp] at z;exact⟨⟨p,hp,z.1.1,z.1.2⟩,z.2⟩
 ·rintro ⟨⟨p,hp,h1,h2⟩,h3⟩
  have z:inR (leftW p.2 p.1 qs) m=true:=by
   rw[Ua p.2 fq.lt fq.pw];simp only [zAv,decide_eq_true_eq,zBp];exact⟨⟨h1,h2⟩,h3⟩
  obtain⟨r,hr,h⟩:=inR_iff.mp z;exact⟨r,zCe.mpr ⟨_,zAD.mpr ⟨p,hp,rfl⟩,hr⟩,h⟩
theorem outW_frm {ps qs:List Rn} (fp:Frm ps) (fq:Frm qs):Frm (outW ps qs):=by
 refine⟨fun r hr=>?_,?_⟩
 ·obtain⟨l,hl,hr⟩:=zCe.mp hr
  obtain⟨p,hp,rfl⟩:=zAD.mp hl;exact (Id p.2 hr).2.1
 ·unfold outW
  rw[List.pairwise_flatten];refine⟨fun l hl=>?_,?_⟩
  ·obtain⟨p,hp,rfl⟩:=zAD.mp hl
   exact F5 p.2 fq.lt p.1
  ·rw[zBG]
   refine fp.pw.imp ?_;intro p q h r hr t ht;have h1:=Id p.2 hr;have h2:=Id q.2 ht;omega
theorem leftW_len (e:Int):∀ (qs:List Rn) (b:Int),(leftW e b qs).length<=qs.length+1
 | [],b=>by unfold leftW; split <;> simp
 | q::qs,b=>by
  have:=leftW_len e qs (maxI b q.2);unfold leftW;rw[zAi,zAg]
  split <;> simp <;> lia
theorem outW_len (ps qs:List Rn):(outW ps qs).length<=ps.length*(qs.length+1):=by
 unfold outW
 induction ps with
 | nil=>simp
 | cons p ps ih=>
  have:=leftW_len p.2 qs p.1;rw[zAK,zBw,zAi,zAg,Nat.add_mul];omega
theorem cutW_len (ps:List Rn) (lo hi:Int):(cutW ps lo hi).length<=ps.length:=by
 unfold cutW;have:=zAG (fun p:Rn=>decide (p.1<p.2)) (ps.map (cutM lo hi));rw[zAb] at this;exact this
theorem lowW_nil (n:Int):lowW [] n=[]:=rfl
theorem lowW_cons (p:Rn) (ps:List Rn) (n:Int):lowW (p::ps) n=(if 0<n then [(p.1,if p.1+n<p.2 then p.1+n else p.2)] else [])++lowW ps (n-(p.2-p.1)):=rfl
theorem leftW_nil (e b:Int):leftW e b []=if b<e then [(b,e)] else []:=rfl
theorem leftW_cons (e b:Int) (q:Rn) (qs:List Rn):leftW e b (q::qs)=(if b<minI q.1 e then [(b,minI q.1 e)] else [])++leftW e (maxI b q.2) qs:=rfl
end CR
namespace CRT
open CR CRP
section
variable {ν : Type}
abbrev Sx (ν : Type):=Int×Int × ν × Int
abbrev Av (ν : Type) := ν × (Int×Int)×Option Int
def payW (c:Av ν) (un:List Rn):List Rn:=match c.2.2 with
 | none=>cutW un c.2.1.1 c.2.1.2
 | some n=>lowW (cutW un c.2.1.1 c.2.1.2) n
def tag (nm : ν) (k:Int) (ps:List Rn):List (Sx ν):=ps.map fun p=>(p.1,p.2,nm,k)
def paidS:List (Av ν)->List Rn->List (Sx ν)
 | [],_=>[]
 | c::cs,un=>tag c.1 (-1) (payW c un)++paidS cs (outW un (payW c un))
def leftS:List (Av ν)->List Rn->List Rn
 | [],un=>un
 | c::cs,un=>leftS cs (outW un (payW c un))
def borneS (nm : ν) (g:Int->Int) (parts:List Tr3) (un:List Rn):List (Sx ν):=(parts.map fun p=>tag nm (g p.2.2) (cutW un p.1 p.2.1)).flatten
def P6 (S:List (Sx ν)) (n:Int):Prop:=∃ s∈S,s.1<=n/\n<s.2.1
theorem Yo {S T:List (Sx ν)} {n:Int}:P6 (S++T) n↔P6 S n\/P6 T n:=by
 unfold P6;constructor
 ·rintro ⟨s,hs,h⟩
  rcases zAz.mp hs with z | z
  ·exact .inl ⟨s,z,h⟩
  ·exact .inr ⟨s,z,h⟩
 ·rintro (⟨s,hs,h⟩ | ⟨s,hs,h⟩)
  ·exact⟨s,zAz.mpr (.inl hs),h⟩
  ·exact⟨s,zAz.mpr (.inr hs),h⟩
theorem Rk {nm : ν} {k:Int} {ps:List Rn} {n:Int}:P6 (tag nm k ps) n↔inR ps n=true:=by
 rw[inR_iff];unfold P6 tag;constructor
 ·rintro ⟨s,hs,h⟩
  obtain⟨p,hp,rfl⟩:=zAD.mp hs;exact⟨p,hp,h⟩
 ·rintro ⟨p,hp,h⟩
  exact⟨_,zAD.mpr ⟨p,hp,rfl⟩,h⟩
def apart (s t:Sx ν):Prop:=(s.2.1<=t.1\/t.2.1<=s.1)/\(s.2.1=t.1\/t.2.1=s.1->s.2.2≠t.2.2)
structure Sep (S:List (Sx ν)):Prop where
 lt:∀ s∈S,s.1<s.2.1
 pw:S.Pairwise apart
theorem apart.symm {s t:Sx ν} (h:apart s t):apart t s:=⟨h.1.symm,fun z e=>h.2 z.symm e.symm⟩
theorem Sep.nil:Sep ([]:List (Sx ν)):=⟨fun _ h=>(nomatch h),.nil⟩
theorem R9 {nm : ν} {k:Int} {ps:List Rn} (f:Frm ps):Sep (tag nm k ps):=by
 refine⟨fun s hs=>?_,?_⟩
 ·obtain⟨p,hp,rfl⟩:=zAD.mp hs
  exact f.lt p hp
 ·unfold tag
  rw[zBG];refine f.pw.imp_of_mem fun {p q} hp hq h=>⟨.inl (by show p.2<=q.1; lia),fun z=>?_⟩;have:=f.lt p hp;have:=f.lt q hq;rcases z with z | z
  ·have z':p.2=q.1:=z
   lia
  ·have z':q.2=p.1:=z
   lia
theorem Zf {S T:List (Sx ν)} (a:Sep S) (b:Sep T) (dj:∀ n,P6 S n->P6 T n->False) (ky:∀ s∈S,∀ t∈T,(s.2.1=t.1\/t.2.1=s.1)->s.2.2≠t.2.2):Sep (S++T):=by
 refine⟨fun s hs=>?_,List.pairwise_append.mpr ⟨a.pw,b.pw,fun s hs t ht=>⟨?_,ky s hs t ht⟩⟩⟩
 ·rcases zAz.mp hs with z | z
  ·exact a.lt s z
  ·exact b.lt s z
 ·have l1:=a.lt s hs
  have l2:=b.lt t ht;by_cases c1:s.2.1<=t.1
  ·exact .inl c1
  by_cases c2:t.2.1<=s.1
  ·exact .inr c2
  exfalso;by_cases c3:s.1<=t.1
  ·exact dj t.1 ⟨s,hs,c3,by lia⟩ ⟨t,ht,by lia,l2⟩
  ·exact dj s.1 ⟨s,hs,by lia,l1⟩ ⟨t,ht,by lia,by lia⟩
theorem payW_frm {c:Av ν} {un:List Rn} (f:Frm un):Frm (payW c un):=by
 unfold payW
 split
 ·exact Kr _ _ f.pw
 ·exact D1 _ (Kr _ _ f.pw)
theorem HI {c:Av ν} {un:List Rn} (f:Frm un) {n:Int} (h:inR (payW c un) n=true):inR un n=true:=by
 unfold payW at h
 split at h
 ·rw[cutW_in,zAv] at h
  exact h.1
 ·rw[X5 (Kr _ _ f.pw),zAv,cutW_in,zAv] at h
  exact h.1.1
theorem leftS_frm:∀ {cs:List (Av ν)} {un:List Rn},Frm un->Frm (leftS cs un)
 | [],_,f=>f
 | c::cs,un,f=>leftS_frm (cs:=cs) (outW_frm f (payW_frm f))
theorem leftS_sub:∀ {cs:List (Av ν)} {un:List Rn} {n:Int},Frm un->inR (leftS cs un) n=true->inR un n=true
 | [],_,_,_,h=>h
 | c::cs,un,n,f,h=>by
  have:=leftS_sub (cs:=cs) (outW_frm f (payW_frm f)) h;rw[outW_in (payW_frm f),zAv] at this;exact this.1
theorem Mz:∀ {cs:List (Av ν)} {un:List Rn} {n:Int},Frm un->(P6 (paidS cs un) n↔inR un n=true/\inR (leftS cs un) n=false)
 | [],un,n,f=>by
  constructor
  ·rintro ⟨s,hs,_⟩
   cases hs
  ·rintro ⟨h1,h2⟩
   have h2':inR un n=false:=h2;rw[h1] at h2';cases h2'
 | c::cs,un,n,f=>by
  have fo:=outW_frm f (payW_frm (c:=c) f);unfold paidS leftS;rw[Yo,Rk,Mz (cs:=cs) fo,outW_in (payW_frm f),zAv,zBp];constructor
  ·rintro (h | ⟨⟨h1,h2⟩,h3⟩)
   ·refine⟨HI f h,?_⟩
    cases z:inR (leftS cs (outW un (payW c un))) n with
    | false=>rfl
    | true=>
     have:=leftS_sub fo z;rw[outW_in (payW_frm f),zAv,zBp] at this;rw[h] at this;cases this.2
   ·exact⟨h1,h3⟩
  ·rintro ⟨h1,h2⟩
   cases z:inR (payW c un) n with
   | true=>exact .inl rfl
   | false=>exact .inr ⟨⟨h1,rfl⟩,h2⟩
theorem Ow:∀ {cs:List (Av ν)} {un:List Rn} {s:Sx ν},s∈paidS cs un->s.2.2.2 = -1/\s.2.2.1∈cs.map (·.1)
 | [],_,_,h=>nomatch h
 | c::cs,un,s,h=>by
  unfold paidS at h;rcases zAz.mp h with z | z
  ·obtain⟨p,_,rfl⟩:=zAD.mp z
   exact⟨rfl,zAk⟩
  ·obtain⟨a,b⟩:=Ow z
   exact⟨a,zAd _ b⟩
theorem Xd:∀ {cs:List (Av ν)} {un:List Rn},Frm un->(cs.map (·.1)).Nodup->Sep (paidS cs un)
 | [],_,_,_=>Sep.nil
 | c::cs,un,f,nd=>by
  rw[zAK,zAW] at nd;have fo:=outW_frm f (payW_frm (c:=c) f);unfold paidS;refine Zf (R9 (payW_frm f)) (Xd fo nd.2) (fun n h1 h2=>?_) (fun s hs t ht _ e=>?_)
  ·rw[Rk] at h1
   rw[Mz fo,outW_in (payW_frm f),zAv,zBp] at h2;rw[h1] at h2;cases h2.1.2
  ·obtain⟨p,_,rfl⟩:=zAD.mp hs
   have:=(Ow ht).2;rw[<- e] at this;exact nd.1 this
theorem Mg (nm : ν) (g:Int->Int) (p:Tr3) (ps:List Tr3) (un:List Rn):borneS nm g (p::ps) un=tag nm (g p.2.2) (cutW un p.1 p.2.1)++borneS nm g ps un:=by
 unfold borneS;rw[zAK,zBw]
theorem IW {f:Int->Int}:∀ {ps:List Tr3} {a:Int} {lk:Option Int} {e:Int},Ch f a lk ps e->a<=e
 | [],a,lk,e,h=>by
  have h':a=e:=h
  lia
 | (l,h,k)::r,a,lk,e,⟨a1,a2,a3,a4,a5⟩=>by
  have:=IW a5
  lia
theorem Nc {f:Int->Int} {nm : ν} {g:Int->Int} {un:List Rn} {n:Int}:∀ {ps:List Tr3} {a:Int} {lk:Option Int} {e:Int},Ch f a lk ps e->(P6 (borneS nm g ps un) n↔inR un n=true/\a<=n/\n<e)
 | [],a,lk,e,h=>by
  have h':a=e:=h;constructor
  ·rintro ⟨s,hs,_⟩
   cases hs
  ·rintro ⟨_,h1,h2⟩
   lia
 | (l,h,k)::r,a,lk,e,⟨a1,a2,a3,a4,a5⟩=>by
  have le:=IW a5;rw[Mg,Yo,Rk,Nc a5,cutW_in,zAv,zAv,decide_eq_true_eq,decide_eq_true_eq]
  dsimp only
  constructor
  ·rintro (⟨h1,h2,h3⟩ | ⟨h1,h2,h3⟩)
   ·exact⟨h1,by lia,by lia⟩
   ·exact⟨h1,by lia,h3⟩
  ·rintro ⟨h1,h2,h3⟩
   by_cases c:n<h
   ·exact .inl ⟨h1,by lia,c⟩
   ·exact .inr ⟨h1,by lia,h3⟩
theorem Lf {nm : ν} {g:Int->Int} {un:List Rn} {s:Sx ν}:∀ {ps:List Tr3},s∈borneS nm g ps un->∃ p∈ps,s.2.2=(nm,g p.2.2)/\∃ q∈cutW un p.1 p.2.1,s.1=q.1/\s.2.1=q.2
 | [],h=>nomatch h
 | p::ps,h=>by
  rw[Mg] at h;rcases zAz.mp h with z | z
  ·obtain⟨q,hq,rfl⟩:=zAD.mp z
   exact⟨p,zAk,rfl,q,hq,rfl,rfl⟩
  ·obtain⟨p',h1,h2⟩:=Lf z
   exact⟨p',zAd _ h1,h2⟩
theorem Xr {un:List Rn} {lo hi:Int} {q:Rn} (h:q∈cutW un lo hi):lo<=q.1/\q.2<=hi/\q.1<q.2:=by
 unfold cutW at h;obtain⟨h1,h2⟩:=zAT.mp h;obtain⟨p,_,rfl⟩:=zAD.mp h1;have:=of_decide_eq_true h2;unfold cutM at this ⊢
 dsimp only at this ⊢
 refine⟨?_,?_,this⟩
 ·split <;> lia
 ·split <;> lia
theorem Wr {f:Int->Int} {nm : ν} {g:Int->Int} {un:List Rn} (fu:Frm un):∀ {ps:List Tr3} {a:Int} {lk:Option Int} {e:Int},Ch f a lk ps e->(∀ p∈ps,∀ q∈ps,g p.2.2=g q.2.2->p.2.2=q.2.2)->Sep (borneS nm g ps un)
 | [],_,_,_,_,_=>Sep.nil
 | (l,h,k)::r,a,lk,e,⟨a1,a2,a3,a4,a5⟩,gi=>by
  rw[Mg];refine Zf (R9 (Kr _ _ fu.pw)) (Wr fu a5 fun p hp q hq=>gi p (zAd _ hp) q (zAd _ hq)) (fun n h1 h2=>?_) (fun s hs t ht tc e'=>?_)
  ·rw[Rk,cutW_in,zAv,zAv,decide_eq_true_eq,decide_eq_true_eq] at h1
   rw[Nc a5] at h2;have:=h1.2.2
   dsimp only at this
   lia
  ·obtain⟨q,hq,rfl⟩:=zAD.mp hs
   obtain⟨b1,b2,b3⟩:=Xr hq
   dsimp only at b1 b2
   obtain⟨p,hp,ek,q',hq',e1,e2⟩:=Lf ht;obtain⟨c1,c2,c3⟩:=Xr hq';have nx:∀ {ps:List Tr3} {b:Int} {lk:Option Int} {e:Int},Ch f b lk ps e->∀ p∈ps,b<=p.1/\(p.1=b->lk≠some p.2.2):=by
    intro ps
    induction ps with
    | nil=>intro b lk e _ p hp; cases hp
    | cons x ps ih=>
     obtain⟨l',h',k'⟩:=x;rintro b lk e ⟨d1,d2,d3,d4,d5⟩ p hp;rcases zAn.mp hp with z | z
     ·subst z
      exact⟨by show b<=l'; lia,fun _=>d3⟩
     ·have:=(ih d5 p z).1
      exact⟨by lia,fun y=>by lia⟩
   obtain⟨n1,n2⟩:=nx a5 p hp;have ek':g k=g p.2.2:=by
    have:=congrArg (fun z : ν × Int=>z.2) (e'.trans ek);exact this
   have kk:=gi (l,h,k) zAk p (zAd _ hp) ek';have pe:p.1=h:=by
    rcases tc with z | z
    ·have z':q.2=t.1:=z
     lia
    ·have z':t.2.1=q.1:=z
     lia
   exact n2 pe (by rw[<- kk])
def allS (cs:List (Av ν)) (nm : ν) (g:Int->Int) (parts:List Tr3) (c:Int):List (Sx ν):=paidS cs [(0,c)]++borneS nm g parts (leftS cs [(0,c)])
theorem frm_one {c:Int} (h:0<c):Frm [((0:Int),c)]:=⟨fun p hp=>by rw[zAo.mp hp]; exact h,List.pairwise_singleton _ _⟩
theorem in_one {c n:Int}:inR [((0:Int),c)] n=true↔0<=n/\n<c:=by
 rw[inR_iff];constructor
 ·rintro ⟨p,hp,h⟩
  rw[zAo.mp hp] at h;exact h
 ·intro h
  exact⟨_,zAo.mpr rfl,h⟩
theorem all_in {cs:List (Av ν)} {nm : ν} {g f:Int->Int} {parts:List Tr3} {c n:Int} (c0:0<c) (ch:Ch f 0 none parts c):P6 (allS cs nm g parts c) n↔0<=n/\n<c:=by
 unfold allS;rw[Yo,Mz (frm_one c0),Nc ch,in_one];constructor
 ·rintro (h | h)
  ·exact h.1
  ·exact h.2
 ·intro h
  cases z:inR (leftS cs [(0,c)]) n with
  | false=>exact .inl ⟨h,rfl⟩
  | true=>exact .inr ⟨rfl,h⟩
theorem all_sep {cs:List (Av ν)} {nm : ν} {g f:Int->Int} {parts:List Tr3} {c:Int} (c0:0<c) (nd:(cs.map (·.1)).Nodup) (ch:Ch f 0 none parts c) (gi:∀ p∈parts,∀ q∈parts,g p.2.2=g q.2.2->p.2.2=q.2.2)
  (gn:∀ p∈parts,g p.2.2 = -1->∀ n,p.1<=n->n<p.2.1->inR (leftS cs [(0,c)]) n=false):Sep (allS cs nm g parts c):=by
 unfold allS;have fl:Frm (leftS cs [((0:Int),c)]):=leftS_frm (frm_one c0);refine Zf (Xd (frm_one c0) nd) (Wr fl ch gi) (fun n h1 h2=>?_) (fun s hs t ht tc e=>?_)
 ·rw[Mz (frm_one c0)] at h1
  rw[Nc ch] at h2;rw[h1.2] at h2;cases h2.1
 ·obtain⟨p,hp,ek,q,hq,e1,e2⟩:=Lf ht
  obtain⟨c1,c2,c3⟩:=Xr hq;have k1:=(Ow hs).1;have k2:g p.2.2 = -1:=by
   have:=congrArg (fun z : ν × Int=>z.2) (e.trans ek);rw[<- k1];exact this.symm
  have i1:=gn p hp k2 q.1 c1 (by lia);have i2:inR (cutW (leftS cs [((0:Int),c)]) p.1 p.2.1) q.1=true:=inR_iff.mpr ⟨q,hq,Int.le_refl _,c3⟩;rw[cutW_in,i1] at i2;cases i2
theorem Sep.starts {S:List (Sx ν)} (h:Sep S):(S.map (·.1)).Nodup:=by
 rw[zBt,zBG];refine h.pw.imp_of_mem fun {s t} hs ht a e=>?_;have l1:=h.lt s hs;have l2:=h.lt t ht;rcases a.1 with z | z <;> lia
theorem Sep.perm {S T:List (Sx ν)} (h:Sep S) (p:T.Perm S):Sep T:=⟨fun s hs=>h.lt s (p.mem_iff.mp hs),(p.pairwise_iff fun h=>h.symm).mpr h.pw⟩
theorem inS_perm {S T:List (Sx ν)} (p:T.Perm S) {n:Int}:P6 T n↔P6 S n:=by
 unfold P6;constructor
 ·rintro ⟨s,hs,h⟩
  exact⟨s,p.mem_iff.mp hs,h⟩
 ·rintro ⟨s,hs,h⟩
  exact⟨s,p.mem_iff.mpr hs,h⟩
def FormS:Int->Option (ν × Int)->List (Sx ν)->Int->Prop
 | a,_,[],c=>a=c
 | a,lk,s::r,c=>s.1=a/\s.1<s.2.1/\lk≠some s.2.2/\FormS s.2.1 (some s.2.2) r c
theorem form_of:∀ {S:List (Sx ν)} {a c:Int} {lk:Option (ν × Int)},a<=c->Sep S->S.Pairwise (fun s t=>s.1<t.1)->(∀ n,P6 S n↔a<=n/\n<c)->(∀ s∈S,s.1=a->lk≠some s.2.2)->FormS a lk S c
 | [],a,c,lk,ac,_,_,rg,_=>by
  show a=c;by_cases z:a=c
  ·exact z
  ·obtain⟨s,hs,_⟩:=(rg a).mpr ⟨Int.le_refl _,by lia⟩
   cases hs
 | s::r,a,c,lk,ac,sp,so,rg,lk'=>by
  have l1:=sp.lt s zAk;have so':=zAS.mp so;have pw':=zAS.mp sp.pw;have s1:=(rg s.1).mp ⟨s,zAk,Int.le_refl _,l1⟩;have sa:s.1=a:=by
   obtain⟨t,ht,t1,t2⟩:=(rg a).mpr ⟨Int.le_refl _,by lia⟩;rcases zAn.mp ht with z | z
   ·rw[z] at t1; lia
   ·have:=so'.1 t z; lia
  have s2:=(rg (s.2.1-1)).mp ⟨s,zAk,by lia,by lia⟩;have beh:∀ t∈r,s.2.1<=t.1:=fun t ht=>by
   have l2:=sp.lt t (zAd _ ht);have:=so'.1 t ht;rcases (pw'.1 t ht).1 with z | z <;> lia
  refine⟨sa,l1,lk' s zAk sa,form_of (by lia) ⟨fun t ht=>sp.lt t (zAd _ ht),pw'.2⟩ so'.2 (fun n=>?_) (fun t ht e z=>?_)⟩
  ·constructor
   ·rintro ⟨t,ht,t1,t2⟩
    have:=beh t ht;exact⟨by lia,((rg n).mp ⟨t,zAd _ ht,t1,t2⟩).2⟩
   ·rintro ⟨n1,n2⟩
    obtain⟨t,ht,t1,t2⟩:=(rg n).mpr ⟨by lia,n2⟩;rcases zAn.mp ht with y | y
    ·rw[y] at t2; lia
    ·exact⟨t,y,t1,t2⟩
  ·exact (pw'.1 t ht).2 (.inl e.symm) (Option.some.inj z)
def EndsIn (B:List Int) (ps:List Rn):Prop:=∀ p∈ps,p.1∈B/\p.2∈B
theorem X8 {B:List Int} {ps:List Rn} {lo hi:Int} (h:EndsIn B ps) (h1:lo∈B) (h2:hi∈B):EndsIn B (cutW ps lo hi):=fun q hq=>by
 unfold cutW at hq;obtain⟨p,hp,rfl⟩:=zAD.mp (zAT.mp hq).1;have:=h p hp;unfold cutM
 dsimp only
 refine⟨?_,?_⟩
 ·split
  ·exact h1
  ·exact this.1
 ·split
  ·exact h2
  ·exact this.2
theorem Wq:∀ {ps:List Rn} (n:Int),(∀ p∈ps,p.1<p.2)->∃ T:Int,∀ B,EndsIn B ps->EndsIn (T::B) (lowW ps n)
 | [],n,_=>⟨0,fun B _ p hp=>nomatch hp⟩
 | p::ps,n,lt=>by
  by_cases c:0<n/\p.1+n<p.2
  ·refine⟨p.1+n,fun B h q hq=>?_⟩
   rw[lowW_cons,if_pos c.1,if_pos c.2,Vu (fun q hq=>lt q (zAd _ hq)) (by lia),zAU] at hq;rw[zAo.mp hq];exact⟨zAd _ (h p zAk).1,zAk⟩
  ·obtain⟨T,hT⟩:=Wq (ps:=ps) (n-(p.2-p.1)) fun q hq=>lt q (zAd _ hq)
   refine⟨T,fun B h q hq=>?_⟩;rw[lowW_cons] at hq;rcases zAz.mp hq with z | z
   ·by_cases c0:0<n
    ·rw[if_pos c0,if_neg (fun y=>c ⟨c0,y⟩)] at z
     rw[zAo.mp z];have:=h p zAk;exact⟨zAd _ this.1,zAd _ this.2⟩
    ·rw[if_neg c0] at z
     cases z
   ·exact hT B (fun q hq=>h q (zAd _ hq)) q z
theorem Sd {B:List Int} {e:Int} (he:e∈B):∀ {qs:List Rn} {b:Int},b∈B->EndsIn B qs->EndsIn B (leftW e b qs)
 | [],b,hb,_,q,hq=>by
  rw[leftW_nil] at hq
  split at hq
  ·rw[zAo.mp hq]
   exact⟨hb,he⟩
  ·cases hq
 | x::qs,b,hb,h,q,hq=>by
  have hx:=h x zAk;rw[leftW_cons] at hq;rcases zAz.mp hq with z | z
  ·split at z
   ·rw[zAo.mp z]
    refine⟨hb,?_⟩;show minI x.1 e∈B;unfold minI
    split
    ·exact he
    ·exact hx.1
   ·cases z
  ·refine Sd he (qs:=qs) (b:=maxI b x.2) ?_ (fun q hq=>h q (zAd _ hq)) q z
   unfold maxI
   split
   ·exact hx.2
   ·exact hb
theorem AU {B:List Int} {ps qs:List Rn} (h:EndsIn B ps) (g:EndsIn B qs):EndsIn B (outW ps qs):=fun q hq=>by
 unfold outW at hq;obtain⟨l,hl,h2⟩:=zCe.mp hq;obtain⟨p,hp,rfl⟩:=zAD.mp hl;exact Sd (h p hp).2 (h p hp).1 g q h2
theorem EndsIn.mono {B B':List Int} {ps:List Rn} (h:EndsIn B ps) (s:∀ x∈B,x∈B'):EndsIn B' ps:=fun p hp=>⟨s _ (h p hp).1,s _ (h p hp).2⟩
theorem Z6 (c:Av ν) {B:List Int} {un:List Rn} (f:Frm un) (h:EndsIn B un):∃ T,EndsIn (T::c.2.1.1::c.2.1.2::B) (payW c un):=by
 have h':EndsIn (c.2.1.1::c.2.1.2::B) (cutW un c.2.1.1 c.2.1.2):=X8 (h.mono fun x hx=>by simp [hx]) (by simp) (by simp);unfold payW
 split
 ·exact⟨0,h'.mono fun x hx=>zAd _ hx⟩
 ·obtain⟨T,hT⟩:=Wq (ps:=cutW un c.2.1.1 c.2.1.2) (by assumption) (Kr _ _ f.pw).lt
  exact⟨T,hT _ h'⟩
theorem paid_ends:∀ {cs:List (Av ν)} {B:List Int} {un:List Rn},Frm un->EndsIn B un->∃ B',B'.length=B.length+3*cs.length/\(∀ x∈B,x∈B')/\EndsIn B' (leftS cs un)/\∀ s∈paidS cs un,s.1∈B'
 | [],B,un,f,h=>⟨B,rfl,fun _ z=>z,h,fun s z=>nomatch z⟩
 | c::cs,B,un,f,h=>by
  obtain⟨T,hT⟩:=Z6 c f h;have h2:EndsIn (T::c.2.1.1::c.2.1.2::B) un:=h.mono fun x hx=>by simp [hx]
  obtain⟨B',b1,b2,b3,b4⟩:=paid_ends (cs:=cs) (outW_frm f (payW_frm (c:=c) f)) (AU h2 hT);refine⟨B',by rw[b1]; simp only [zAg]; lia,fun x hx=>b2 x (by simp [hx]),b3,fun s hs=>?_⟩;unfold paidS at hs;rcases zAz.mp hs with z | z
  ·obtain⟨p,hp,rfl⟩:=zAD.mp z
   exact b2 _ (hT p hp).1
  ·exact b4 s z
theorem few_of {l m:List Int} (nd:l.Nodup) (h:∀ x∈l,x∈m):l.length<=m.length:=by
 induction l generalizing m with
 | nil=>exact zAA _
 | cons x l ih=>
  rw[zAW] at nd;have hx:=h x zAk;have:=ih (m:=m.erase x) nd.2 fun y hy=>(zCd (fun z=>nd.1 (by rw[<- z]; exact hy))).mpr (h y (zAd _ hy));rw[zBL hx] at this;have:0<m.length:=zBR hx;rw[zAg]
  lia
theorem N6 {ps:List Rn} {lo hi:Int} {q:Rn} (h:q∈cutW ps lo hi):q.1=lo\/∃ p∈ps,q.1=p.1:=by
 unfold cutW at h;obtain⟨p,hp,rfl⟩:=zAD.mp (zAT.mp h).1;unfold cutM
 dsimp only
 split
 ·exact .inl rfl
 ·exact .inr ⟨p,hp,rfl⟩
theorem all_len {cs:List (Av ν)} {nm : ν} {g f:Int->Int} {parts:List Tr3} {c:Int} (c0:0<c) (sp:Sep (allS cs nm g parts c)):(allS cs nm g parts c).length<=2+3*cs.length+parts.length:=by
 obtain⟨B,b1,b2,b3,b4⟩:=paid_ends (cs:=cs) (B:=[0,c]) (frm_one c0) (fun p hp=>by rw[zAo.mp hp]; simp);have:=few_of (m:=parts.map (·.1)++B) sp.starts fun x hx=>?_
 ·rw[zAb,zAi,zAb,b1] at this
  simp only [zAg,List.length_nil] at this
  lia
 ·obtain⟨s,hs,rfl⟩:=zAD.mp hx
  unfold allS at hs;rcases zAz.mp hs with z | z
  ·exact zAz.mpr (.inr (b4 s z))
  ·obtain⟨p,hp,_,q,hq,e1,_⟩:=Lf z
   rw[e1];rcases N6 hq with y | ⟨p',hp',y⟩
   ·rw[y]
    exact zAz.mpr (.inl (zAD.mpr ⟨p,hp,rfl⟩))
   ·rw[y]
    exact zAz.mpr (.inr (b3 p' hp').1)
end
end CRT
namespace CR
end CR
namespace CRT
open CR CRP
section
variable {ν : Type}
end
end CRT
namespace CRL
open PySem L2
def top (i:Nat):Stmt:=PySem.Challenge.pw_coverroll_k48_what_is_counted.main.body.getD i (.Pass ⟨0,0,0,0⟩)
abbrev Me:Stmt:=top 8
abbrev Ef:Stmt:=top 20
abbrev Oz:Stmt:=top 21
abbrev Kw:Stmt:=top 22
abbrev Po:Stmt:=top 23
abbrev Fg:Stmt:=top 26
abbrev Pw:Stmt:=top 27
abbrev Fd:Stmt:=Bw (top 28) 0
abbrev Ix:Stmt:=Bw (top 28) 1
abbrev Hq:Stmt:=Bw (top 28) 2
abbrev Ht:Stmt:=Bw (top 28) 3
abbrev Gm:Stmt:=Bw (top 29) 0
abbrev Mn:Stmt:=Bw (top 29) 1
abbrev Fi:Stmt:=Bw (top 30) 0
abbrev Jh:Stmt:=Bw (top 30) 1
abbrev Fj:Stmt:=Bw (top 31) 0
abbrev Jf:Stmt:=Bw (top 31) 1
abbrev Iu:Stmt:=top 33
abbrev Ke:Stmt:=top 34
abbrev Hs:Stmt:=top 35
abbrev Ot:Stmt:=top 36
abbrev Io:Stmt:=top 38
abbrev Lv:Stmt:=top 39
abbrev Jt:Stmt:=top 40
abbrev Gn:Stmt:=top 41
abbrev Kv:Stmt:=top 42
abbrev Op:Stmt:=top 43
abbrev Jq:Stmt:=top 44
abbrev Sm:Stmt:=top 45
abbrev Fw:Stmt:=Bw (top 48) 0
abbrev Ev:Stmt:=Bw (top 50) 0
abbrev Eo:Stmt:=Bw (top 51) 0
abbrev Fv:Stmt:=Bw (top 51) 1
abbrev En:Stmt:=Bw (top 52) 0
abbrev Fu:Stmt:=Bw (top 52) 1
abbrev Fe:Stmt:=Bw (top 53) 0
abbrev Gz:Stmt:=Bw (top 53) 1
abbrev Fx:Stmt:=Bw (top 54) 0
abbrev Ip:Stmt:=Bw (top 54) 1
abbrev Go:Stmt:=Bw (top 55) 0
abbrev Jz:Stmt:=Bw (top 55) 1
abbrev Gp:Stmt:=Bw (top 56) 0
abbrev Kq:Stmt:=Bw (top 56) 1
abbrev Ft:Stmt:=Bw (top 57) 0
abbrev Jc:Stmt:=Bw (top 57) 1
abbrev Fc:Stmt:=Bw (top 59) 0
abbrev Hr:Stmt:=Bw (top 59) 1
abbrev Jg:Stmt:=Bw (top 59) 2
abbrev Hm:Stmt:=top 63
abbrev Mc:Stmt:=top 64
abbrev Rm:Stmt:=top 65
abbrev Fy:Stmt:=top 66
abbrev Yv:Stmt:=top 67
abbrev Fz:Stmt:=Bw (top 68) 0
abbrev Gq:Stmt:=top 72
abbrev Fq:Stmt:=top 73
abbrev Kh:Stmt:=top 74
abbrev Cd:Stmt:=Bw (top 75) 0
abbrev Iq:Stmt:=Bw (top 75) 1
abbrev Hu:Stmt:=Bw (top 75) 2
abbrev Gk:Stmt:=Bw (top 75) 3
abbrev Hx:Stmt:=Bw (top 75) 4
abbrev Iw:Stmt:=Bw (top 75) 5
abbrev Km:Stmt:=top 77
abbrev Ir:Stmt:=top 78
abbrev Hj:Stmt:=top 79
abbrev Jd:Stmt:=top 80
abbrev Ho:Stmt:=top 81
abbrev Ij:Stmt:=top 82
abbrev Ki:Stmt:=top 83
abbrev Kd:Stmt:=top 84
abbrev Eg:Stmt:=top 85
abbrev Hl:Stmt:=top 86
abbrev Jv:Stmt:=top 87
abbrev Hk:Stmt:=top 88
abbrev Im:Stmt:=top 89
abbrev Ms:Stmt:=top 90
abbrev Iz:Stmt:=top 91
abbrev Jp:Stmt:=top 92
abbrev Kt:Stmt:=top 93
abbrev Gw:Stmt:=top 94
abbrev Ff:Stmt:=top 95
abbrev Hn:Stmt:=top 96
abbrev Kc:Stmt:=top 97
abbrev Ko:Stmt:=top 98
abbrev Kk:Stmt:=top 99
abbrev Uj:Stmt:=top 100
structure Txt (K:zAa) (mg:Str->Option Value):Prop where
 g_CAUSE:Od mg "CAUSE" 4
 g_CENTS:Od mg "CENTS" 5
 g_COVERED_ONE:KR mg "COVERED_ONE" "self"
 g_DAY:Od mg "DAY" 1
 g_DAYS_OF_YEAR:Od mg "DAYS_OF_YEAR" 365
 g_EVENT:Od mg "EVENT" 2
 g_LETTERS:KR mg "LETTERS" "abcdefghijklmnopqrstuvwxyz"
 g_LONGEST_NAME:Od mg "LONGEST_NAME" 8
 g_MOST_CENTS:Od mg "MOST_CENTS" 999999999999
 g_MOST_CLAUSES:Od mg "MOST_CLAUSES" 8
 g_MOST_COVERS:Od mg "MOST_COVERS" 8
 g_MOST_PLACES:Od mg "MOST_PLACES" 8
 g_MOST_TURNS:Od mg "MOST_TURNS" 100
 g_NUMBER:Od mg "NUMBER" 0
 g_THING:Od mg "THING" 3
 n_bool:mg "bool" = none
 n_enumerate:mg "enumerate" = none
 n_int:mg "int" = none
 n_isinstance:mg "isinstance" = none
 n_len:mg "len" = none
 n_list:mg "list" = none
 n_max:mg "max" = none
 n_min:mg "min" = none
 n_range:mg "range" = none
 n_set:mg "set" = none
 n_sorted:mg "sorted" = none
 n_str:mg "str" = none
 n_sum:mg "sum" = none
 n_tuple:mg "tuple" = none
 n_zip:mg "zip" = none
 t_WAYS:NE K mg "WAYS" [.str "event",.str "thing",.str "year",.str "loss"]
structure Kl (K:zAa) (mg:Str->Option Value) (Ab Ag Af Am At Ba Az As Ad Au Ak Ah Bg Aj Bb Ap:Addr):Prop where
 mg_Condition:mg "Condition" = some (.ref Ab)
 cl_Condition:Cls K Ab
 mg_CauseIs:mg "CauseIs" = some (.ref Ag)
 cl_CauseIs:Cls K Ag
 na_CauseIs_name:NoAttr K Ag "name"
 mg_ThingIs:mg "ThingIs" = some (.ref Af)
 cl_ThingIs:Cls K Af
 na_ThingIs_name:NoAttr K Af "name"
 mg_DaysIn:mg "DaysIn" = some (.ref Am)
 cl_DaysIn:Cls K Am
 na_DaysIn_first:NoAttr K Am "first"
 na_DaysIn_last:NoAttr K Am "last"
 mg_Over:mg "Over" = some (.ref At)
 cl_Over:Cls K At
 na_Over_cents:NoAttr K At "cents"
 mg_Not:mg "Not" = some (.ref Ba)
 cl_Not:Cls K Ba
 na_Not_part:NoAttr K Ba "part"
 mg_All:mg "All" = some (.ref Az)
 cl_All:Cls K Az
 na_All_several:NoAttr K Az "several"
 mg_Some:mg "Some" = some (.ref As)
 cl_Some:Cls K As
 na_Some_several:NoAttr K As "several"
 mg_Clause:mg "Clause" = some (.ref Ad)
 cl_Clause:Cls K Ad
 na_Clause_by:NoAttr K Ad "by"
 ty_Clause:∀ {H:Hp} {a dx:Addr} {fs:List (Str×V)},H a=some (.ins Ad dx fs)->Gj K H (.ref a) (.ref Ad)
 mg_Own:mg "Own" = some (.ref Au)
 cl_Own:Cls K Au
 na_Own_cents:NoAttr K Au "cents"
 na_Own_by:NoAttr K Au "by"
 ty_Own:∀ {H:Hp} {a dx:Addr} {fs:List (Str×V)},H a=some (.ins Au dx fs)->Gj K H (.ref a) (.ref Au)
 mg_Layer:mg "Layer" = some (.ref Ak)
 cl_Layer:Cls K Ak
 na_Layer_first:NoAttr K Ak "first"
 na_Layer_upto:NoAttr K Ak "upto"
 na_Layer_by:NoAttr K Ak "by"
 ty_Layer:∀ {H:Hp} {a dx:Addr} {fs:List (Str×V)},H a=some (.ins Ak dx fs)->Gj K H (.ref a) (.ref Ak)
 mg_Limit:mg "Limit" = some (.ref Ah)
 cl_Limit:Cls K Ah
 na_Limit_most:NoAttr K Ah "most"
 na_Limit_by:NoAttr K Ah "by"
 ty_Limit:∀ {H:Hp} {a dx:Addr} {fs:List (Str×V)},H a=some (.ins Ah dx fs)->Gj K H (.ref a) (.ref Ah)
 mg_Deal:mg "Deal" = some (.ref Bg)
 cl_Deal:Cls K Bg
 na_Deal_wheel:NoAttr K Bg "wheel"
 na_Deal_weights:NoAttr K Bg "weights"
 mg_Cover:mg "Cover" = some (.ref Aj)
 cl_Cover:Cls K Aj
 na_Cover_name:NoAttr K Aj "name"
 na_Cover_condition:NoAttr K Aj "condition"
 na_Cover_clauses:NoAttr K Aj "clauses"
 na_Cover_houses:NoAttr K Aj "houses"
 na_Cover_deal:NoAttr K Aj "deal"
 na_Cover_waits:NoAttr K Aj "waits"
 mg_Book:mg "Book" = some (.ref Bb)
 cl_Book:Cls K Bb
 na_Book_covers:NoAttr K Bb "covers"
 na_Book_asking:NoAttr K Bb "asking"
 mg_Counts:mg "Counts" = some (.ref Ap)
 cl_Counts:Cls K Ap
 na_Counts_kept:NoAttr K Ap "kept"
 kt_Clause_Limit:zAR K (.ref Ad) (.ref Ah)=some false
 kt_Own_Limit:zAR K (.ref Au) (.ref Ah)=some false
 kt_Layer_Limit:zAR K (.ref Ak) (.ref Ah)=some false
 kt_Limit_Limit:zAR K (.ref Ah) (.ref Ah)=some true
 nd:([Ab,Ag,Af,Am,At,Ba,Az,As,Ad,Au,Ak,Ah,Bg,Aj,Bb,Ap]:List Addr).Nodup
theorem dT {c A B:Prop} [Decidable c] (h:c) (q:A):if decide c=true then A else B:=by rw[decide_eq_true h,if_pos rfl]; exact q
theorem dF {c A B:Prop} [Decidable c] (h:¬ c) (q:B):if decide c=true then A else B:=by rw[decide_eq_false h,if_neg zAm]; exact q
theorem nT {c A B:Prop} [Decidable c] (h:¬ c) (q:A):if (!decide c)=true then A else B:=by rw[decide_eq_false h]; exact q
theorem nF {c A B:Prop} [Decidable c] (h:c) (q:B):if (!decide c)=true then A else B:=by rw[decide_eq_true h]; exact q
theorem bT {c:Bool} {A B:Prop} (h:c=true) (q:A):if c=true then A else B:=by rw[if_pos h]; exact q
theorem bF {c:Bool} {A B:Prop} (h:c=false) (q:B):if c=true then A else B:=by rw[if_neg (by rw[h]; exact zAm)]; exact q
def DN:V->Bool
 | .int _=>true
 | _=>false
theorem Xb {K:zAa} {H:Hp} {x:V} {T:String} (h:Gj K H x (.type T)):∃ b1 b2,zAR K (.type T) (.type "int")=some b1/\zAR K (.type T) (.type "bool")=some b2/\DN x=(b1 && !b2):=by
 cases h with
 | non=>exact⟨false,false,by kernel_rfl,by kernel_rfl,rfl⟩
 | bl b=>exact⟨true,true,by kernel_rfl,by kernel_rfl,rfl⟩
 | int i=>exact⟨true,false,by kernel_rfl,by kernel_rfl,rfl⟩
 | str i=>exact⟨false,false,by kernel_rfl,by kernel_rfl,rfl⟩
 | flt i=>exact⟨false,false,by kernel_rfl,by kernel_rfl,rfl⟩
 | lst e=>exact⟨false,false,by kernel_rfl,by kernel_rfl,rfl⟩
 | frz e=>exact⟨false,false,by kernel_rfl,by kernel_rfl,rfl⟩
 | tup e=>exact⟨false,false,by kernel_rfl,by kernel_rfl,rfl⟩
 | dK e=>exact⟨false,false,by kernel_rfl,by kernel_rfl,rfl⟩
 | dT e=>exact⟨false,false,by kernel_rfl,by kernel_rfl,rfl⟩
theorem FL {K:zAa}:zAR K (.type "list") (.type "list")=some true:=by kernel_rfl
def He (K:zAa):Sp:=fun vs H Q _=>∃ x T,vs=[x]/\Gj K H x (.type T)/\Q (.bl (DN x)) H
theorem KU {K:zAa}:zAR K (.type "tuple") (.type "tuple")=some true:=by kernel_rfl
def Ts (K:zAa):Sp:=fun vs H Q _=>∃ a ns,∃ k:Int,vs=[.ref a,.int k]/\SqL K H a (List.map V.int ns)/\0<=k/\ns.length<=63/\Q (.int (ns.getD k.toNat 0)) H
section
variable {P:Program} {w:World} {K:zAa} {mg:Str->Option Value} {base:Heap}
theorem Xl:Bd ["_law_script", "_law_k"] ["_law_script", "_law_k"] (Ar Km):=⟨rfl,rfl,rfl,by decide +kernel,rfl,by decide +kernel,by decide +kernel⟩
theorem Xn {f:Addr} {fd:zCy} (F:Fun K "_law_cell" "_law_cell" Km f fd) (T:Txt K mg):FnOk P w K mg base Da 1 f fd ["_law_script", "_law_k"] (Ts K):=by
 have sc:=Xl;refine F.ok sc (fun vs H Q E h=>?_) (fun cdv A outer s H vs Q E hr h=>?_)
 ·obtain⟨_,_,_,rfl,_⟩:=h
  rfl
 obtain⟨a,ns,k,rfl,ha,h0,h63,q⟩:=h;refine⟨_,(Ae (Bt (Bi Gx (pv 1) (Bo Ci rfl T.n_len (show zCx _=some (.builtin "len") from rfl) (Aa (pv 0) Ai)) (Bl _))
    (An (Bc (Bf Bp (pv 0) (pv 1) (fun _ _=>rfl))))
    Bk)
   (An (Bc Al))),?_⟩
 have hl:(List.map V.int ns).length=ns.length:=zAb _;refine (vE rfl (vE rfl ⟨a,_,rfl,.inl ha,vF rfl rfl (vE rfl ?_)⟩));rw[hl];refine Qo (fun c=>?_) (fun c=>?_)
 ·have c':k<(ns.length:Int):=of_decide_eq_true c
  exact (vE rfl (vE rfl ⟨a,_,_,_,rfl,rfl,ha,U6 h0 c',q⟩))
 ·have c':¬ k<(ns.length:Int):=of_decide_eq_false (zBa.mpr c)
  have e:ns.getD k.toNat 0=0:=by
   rw[zAr,zBW (by lia)];rfl
  rw[e] at q;exact q
theorem C1:Bd ["thing"] ["thing"] (Ar Me):=⟨rfl,rfl,rfl,by decide +kernel,rfl,by decide +kernel,by decide +kernel⟩
theorem C6 {f:Addr} {fd:zCy} (F:Fun K "is_whole" "is_whole" Me f fd) (T:Txt K mg):FnOk P w K mg base Da 1 f fd ["thing"] (He K):=by
 have sc:=C1;refine F.ok sc (fun vs H Q E h=>?_) (fun cdv A outer s H vs Q E hr h=>?_)
 ·obtain⟨x,T,rfl,_⟩:=h
  rfl
 obtain⟨x,ty,rfl,hty,q⟩:=h;refine⟨_,(An (Bc (Uc (Bo Cw rfl T.n_isinstance (show zCx _=some (.builtin "isinstance") from rfl) (Aa (pv 0) (Aa (Lq "int" rfl T.n_int rfl) Ai))) (Ro (Xw (Bo Cw rfl T.n_isinstance (show zCx _=some (.builtin "isinstance") from rfl) (Aa (pv 0) (Aa (Lq "bool" rfl T.n_bool rfl) Ai)))))))),?_⟩;obtain⟨b1,b2,k1,k2,e⟩:=Xb hty;rw[e] at q;refine (vE rfl ⟨_,_,_,_,_,rfl,Lo,hty,k1,_,rfl,?_⟩);cases b1 with
 | false=>exact q
 | true=>exact⟨_,rfl,_,_,_,_,_,rfl,Lo,hty,k2,_,rfl,q⟩
theorem Vp:Bd ["_law_found"] ["_law_found"] (Ar Ir):=⟨rfl,rfl,rfl,by decide +kernel,rfl,by decide +kernel,by decide +kernel⟩
theorem Vh {f:Addr} {fd:zCy} (F:Fun K "_law_whole" "_law_whole" Ir f fd) (T:Txt K mg):FnOk P w K mg base Da 1 f fd ["_law_found"] (He K):=by
 have sc:=Vp;refine F.ok sc (fun vs H Q E h=>?_) (fun cdv A outer s H vs Q E hr h=>?_)
 ·obtain⟨x,T,rfl,_⟩:=h
  rfl
 obtain⟨x,ty,rfl,hty,q⟩:=h;refine⟨_,(An (Bc (Uc (Bo Cw rfl T.n_isinstance (show zCx _=some (.builtin "isinstance") from rfl) (Aa (pv 0) (Aa (Lq "int" rfl T.n_int rfl) Ai))) (Ro (Xw (Bo Cw rfl T.n_isinstance (show zCx _=some (.builtin "isinstance") from rfl) (Aa (pv 0) (Aa (Lq "bool" rfl T.n_bool rfl) Ai)))))))),?_⟩;obtain⟨b1,b2,k1,k2,e⟩:=Xb hty;rw[e] at q;refine (vE rfl ⟨_,_,_,_,_,rfl,Lo,hty,k1,_,rfl,?_⟩);cases b1 with
 | false=>exact q
 | true=>exact⟨_,rfl,_,_,_,_,_,rfl,Lo,hty,k2,_,rfl,q⟩
def PZ (m:Int):V->Bool
 | .int i=>decide (0<=i/\i<=m)
 | _=>false
def EB (K:zAa) (m:Int):Sp:=fun vs H Q _=>∃ x T,vs=[x]/\Gj K H x (.type T)/\Q (.bl (PZ m x)) H
theorem Zs:Bd ["thing"] ["thing"] (Ar Kw):=⟨rfl,rfl,rfl,by decide +kernel,rfl,by decide +kernel,by decide +kernel⟩
theorem Xk {f:Addr} {fd:zCy} (F:Fun K "is_amount" "is_amount" Kw f fd) (T:Txt K mg) (Cis_whole:Cp P w K mg base 1 "is_whole" ["thing"] (He K)):FnOk P w K mg base Da 2 f fd ["thing"] (EB K 999999999999):=by
 have sc:=Zs;refine F.ok sc (fun vs H Q E h=>?_) (fun cdv A outer s H vs Q E hr h=>?_)
 ·obtain⟨_,_,rfl,_⟩:=h
  rfl
 obtain⟨x,ty,rfl,hty,q⟩:=h;refine⟨_,(An (Bc (Uc (Ax Cis_whole (hr.mono (by decide)) rfl (Aa (pv 0) Ai)) (Ro (Nk Lr Lr Al (pv 0) (Dg T.g_MOST_CENTS rfl)))))),?_⟩;refine (vE rfl ⟨_,_,rfl,hty,_,rfl,?_⟩);cases x with
 | int i=>
  refine Kb (vE rfl (vF rfl rfl (vE rfl ?_)));by_cases c1:(0:Int)<=i
  ·refine dT c1 (vF rfl rfl ?_)
   show Q (.bl (decide (i<=999999999999))) H;have e:decide (0<=i/\i<=999999999999)=decide (i<=999999999999):=by
    by_cases c2:i<=999999999999
    ·rw[decide_eq_true c2,decide_eq_true ⟨c1,c2⟩]
    ·rw[decide_eq_false c2,decide_eq_false (fun y=>c2 y.2)]
   rw[<- e];exact q
  ·refine dF c1 ?_
   rw[show PZ 999999999999 (.int i)=false from decide_eq_false (fun y=>c1 y.1)] at q;exact q
 | _=>exact Dj q
end
def Ga (c:Nat):Prop:=97<=c/\c<=122
instance:DecidablePred Ga:=fun c=>by unfold Ga; exact inferInstance
def Jx (l:List Nat):Prop:=∀ c∈l,Ga c
instance (l:List Nat):Decidable (Jx l):=by unfold Jx; exact inferInstance
def Ru (l:List Nat):Prop:=(1<=l.length/\l.length<=8)/\Jx l
instance (l:List Nat):Decidable (Ru l):=by unfold Ru; exact inferInstance
theorem let_in {c:Nat}:(c∈(Str.ofString "abcdefghijklmnopqrstuvwxyz").cps.toList)↔Ga c:=by
 have e:(Str.ofString "abcdefghijklmnopqrstuvwxyz").cps.toList=(zAL 26).map (97 + ·):=by decide +kernel
 rw[e,zAD];unfold Ga;constructor
 ·rintro ⟨k,hk,rfl⟩
  have:=zBu.mp hk
  lia
 ·intro h
  exact⟨c-97,zBu.mpr (by lia),by lia⟩
def LD:V->Bool
 | .str _=>true
 | _=>false
def Qa:V->Bool
 | .str z=>decide (Ru z.cps.toList)
 | _=>false
def QZ (x:V):Prop:=∀ z,x = .str z->z.length<=900
theorem GF {K:zAa} {H:Hp} {x:V} {T:String} (h:Gj K H x (.type T)):zAR K (.type T) (.type "str")=some (LD x):=by
 cases h with
 | non=>kernel_rfl
 | bl b=>kernel_rfl
 | int i=>kernel_rfl
 | str i=>kernel_rfl
 | flt i=>kernel_rfl
 | lst e=>kernel_rfl
 | frz e=>kernel_rfl
 | tup e=>kernel_rfl
 | dK e=>kernel_rfl
 | dT e=>kernel_rfl
def DV:Sp:=fun vs H Q _=>∃ l,vs=[.str (tx l)]/\Q (.bl (decide (Jx l))) H
def Yr (K:zAa):Sp:=fun vs H Q _=>∃ x T,vs=[x]/\Gj K H x (.type T)/\QZ x/\Q (.bl (Qa x)) H
section
seal L2.PS L2.PSs L2.PE
variable {P:Program} {w:World} {K:zAa} {mg:Str->Option Value} {base:Heap}
theorem Ks:Bd ["text", "sign"] ["text"] (Ar Ef):=⟨rfl,rfl,rfl,by decide +kernel,rfl,by decide +kernel,by decide +kernel⟩
theorem Jw {f:Addr} {fd:zCy} (F:Fun K "has_letters_alone" "has_letters_alone" Ef f fd) (T:Txt K mg):FnOk P w K mg base Da 1 f fd ["text"] DV:=by
 have sc:=Ks;refine F.ok sc (fun vs H Q E h=>?_) (fun cdv A outer s H vs Q E hr h=>?_)
 ·obtain⟨_,rfl,_⟩:=h
  rfl
 obtain⟨l,rfl,q⟩:=h;refine⟨_,(Ae (Cj PassesOwn.never rfl (JB (pv 0)) (Ay (i:=1) sc.nd rfl (Or.inl rfl))
    (An (Bt (Bi Z5 (pv 1) (W6 T.g_LETTERS rfl) rfl)
    (An (Bc Ee))
    Bk)))
   (An (Bc Ee))),?_⟩
 refine (vE rfl (vE rfl (FS (l:=l) (fun i σ H2=>((∃ o,σ=[some (.str (tx l)),o])/\H2=H)/\∀ j c,j<i->l[j]?=some c->Ga c) ⟨⟨⟨none,rfl⟩,rfl⟩,fun _ _ z=>absurd z (zBq _)⟩ ?_ ?_)))
 ·rintro i c σ H2 hi ⟨⟨⟨o,rfl⟩,rfl⟩,good⟩
  refine (vE rfl ⟨c,_,rfl,rfl,vE rfl ?_⟩);by_cases hc:Ga c
  ·refine nF (let_in.mpr hc) ⟨⟨⟨_,rfl⟩,rfl⟩,fun j d hj hd=>?_⟩
   by_cases e:j=i
   ·subst e
    rw[hi] at hd;cases hd;exact hc
   ·exact good j d (by lia) hd
  ·refine nT (fun z=>hc (let_in.mp z)) ?_
   have n:¬ Jx l:=fun z=>hc (z c (zAB hi));rw[decide_eq_false n] at q;exact q
 ·rintro σ H2 ⟨⟨⟨o,rfl⟩,rfl⟩,good⟩
  have all:Jx l:=fun c hc=>by
   obtain⟨j,hj,e⟩:=zAX hc;exact good j c hj (by rw[zAe hj,e])
  rw[decide_eq_true all] at q;exact q
theorem N0:Bd ["thing"] ["thing"] (Ar Oz):=⟨rfl,rfl,rfl,by decide +kernel,rfl,by decide +kernel,by decide +kernel⟩
theorem O4 {f:Addr} {fd:zCy} (F:Fun K "is_name" "is_name" Oz f fd) (T:Txt K mg) (Chas_letters_alone:Cp P w K mg base 1 "has_letters_alone" ["text"] DV):FnOk P w K mg base Da 2 f fd ["thing"] (Yr K):=by
 have sc:=N0;refine F.ok sc (fun vs H Q E h=>?_) (fun cdv A outer s H vs Q E hr h=>?_)
 ·obtain⟨_,_,rfl,_⟩:=h
  rfl
 obtain⟨x,ty,rfl,hty,ok,q⟩:=h;refine⟨_,(Ae (Bt (Df (Cr (Bo Cw rfl T.n_isinstance (show zCx _=some (.builtin "isinstance") from rfl) (Aa (pv 0) (Aa (Lq "str" rfl T.n_str rfl) Ai)))))
    (An (Bc Ee))
    Bk)
   (An (Bc (Uc (Nk Lr Lr Al (Bo Yc rfl T.n_len (show zCx _=some (.builtin "len") from rfl) (Aa (pv 0) Ai)) (Dg T.g_LONGEST_NAME rfl)) (Ro (Ax Chas_letters_alone (hr.mono (by decide)) rfl (Aa (pv 0) Ai))))))),?_⟩
 refine (vE rfl ⟨_,_,_,_,_,rfl,Lo,hty,GF hty,_,rfl,?_⟩);cases x with
 | str z=>
  have hz:=ok z rfl;have ez:tx z.cps.toList=z:=X3 z;refine Dj (vE rfl (vE rfl ⟨By (by lia),?_⟩));have lz:(z.length:Int)=(z.cps.toList.length:Int):=by rw[<- Dr,ez]
  refine (vF rfl rfl (vE rfl ?_));by_cases c1:1<=(z.length:Int)
  ·refine dT c1 (vF rfl rfl (vE rfl ?_))
   by_cases c2:(z.length:Int)<=8
   ·refine dT c2 (vE rfl ⟨z.cps.toList,by rw[ez]; rfl,?_⟩)
    have e:decide (Ru z.cps.toList)=decide (Jx z.cps.toList):=by
     by_cases a:Jx z.cps.toList
     ·rw[decide_eq_true a,decide_eq_true (show Ru _ from ⟨⟨by lia,by lia⟩,a⟩)]
     ·rw[decide_eq_false a,decide_eq_false (fun y=>a y.2)]
    rw[<- e];exact q
   ·refine dF c2 ?_
    rw[show Qa (.str z)=false from decide_eq_false (fun y=>c2 (by have:=y.1.2; lia))] at q;exact q
  ·refine dF c1 (vE rfl (Dj ?_))
   rw[show Qa (.str z)=false from decide_eq_false (fun y=>c1 (by have:=y.1.1; lia))] at q;exact q
 | _=>exact Kb q
end
theorem Fk {C:Addr} {H H2:Hp} {x dx:Addr} (nx:H x=none) (ndx:H dx=none) (kp:∀ b o,(upd (upd H dx (.own x)) x (.ins C dx [])) b=some o->b≠x->H2 b=some o):Same H H2:=fun b o e=>
 kp b o (by rw[Aw (Aq e nx),Aw (Aq e ndx)]; exact e) (Aq e nx)
def KB (p:Addr) (H H':Hp):Prop:=∀ b o,H b=some o->b≠p->H' b=some o
theorem KB.upd {p:Addr} {H H':Hp} (k:KB p H H') (o:HO):KB p H (upd H' p o):=fun b u e n=>by rw[Aw n]; exact k b u e n
theorem KB.same {p:Addr} {H H' H'':Hp} (k:KB p H H') (s:Same H' H''):KB p H H'':=fun b u e n=>s _ _ (k b u e n)
theorem KB.free {p:Addr} {H H':Hp} {b:Addr} (k:KB p H H') (n:b≠p) (h:H' b=none):H b=none:=by
 cases z:H b with
 | none=>rfl
 | some o=>
  have:=k _ _ z n;rw[h] at this;cases this
theorem Dz {i:Nat} {v:V} {nx:St->Hp->Prop} {σ:St} {H:Hp} (σ':St) (e:σ.set i (some v)=σ') (h:nx σ' H):Er i v σ H nx:=by
 unfold Er;rw[e];exact h
theorem Y1 (l:List Str):(l.map V.str).all Fb=true:=by
 rw[List.all_map];exact zBK.mpr fun _ _=>rfl
theorem Bu {α:Type} {l:List α} {i:Nat} {x:α} (h:l[i]?=some x):l.take (i+1)=l.take i++[x]:=by
 rw[List.take_add_one,h];rfl
theorem f1 {f g:Str} {v:V} {fs:List (Str×V)} (h:¬ g=f):(Bv f v fs).lookup g=fs.lookup g:=by rw[Bj,if_neg h]
theorem f0 {f:Str} {v:V} {fs:List (Str×V)}:(Bv f v fs).lookup f=some v:=by rw[Bj,if_pos rfl]
theorem Fo (f:Str) (v:V):∀ fs:List (Str×V),(Bv f v fs).length<=fs.length+1
 | []=>zAl _
 | (g,u)::fs=>by
  unfold Bv
  split
  ·simp
  ·have:=Fo f v fs
   simp only [zAg]
   lia
theorem AA {H:Hp} {x dx b:Addr} {o o':HO} (h:upd (upd H dx o) x o' b=none):H b=none:=by
 by_cases e:b=x
 ·subst e
  rw[Ac] at h;cases h
 ·rw[Aw e] at h
  by_cases e':b=dx
  ·subst e'
   rw[Ac] at h;cases h
  ·rw[Aw e'] at h
   exact h
def noM5 (fs:List (Str×V)):Prop:=fs.lookup ("asks" : Str)=none/\fs.lookup ("spans" : Str)=none/\fs.lookup ("window" : Str)=none/\fs.lookup ("parts" : Str)=none/\fs.lookup ("rest" : Str)=none
theorem noM5.put {f:Str} {v:V} {fs:List (Str×V)} (h:noM5 fs) (n1:¬ ("asks" : Str)=f) (n2:¬ ("spans" : Str)=f) (n3:¬ ("window" : Str)=f) (n4:¬ ("parts" : Str)=f) (n5:¬ ("rest" : Str)=f):noM5 (Bv f v fs):=
 ⟨by rw[f1 n1]; exact h.1,by rw[f1 n2]; exact h.2.1,by rw[f1 n3]; exact h.2.2.1,by rw[f1 n4]; exact h.2.2.2.1,by rw[f1 n5]; exact h.2.2.2.2⟩
def Yw:List V:=[.int 1]
def DT:Sp:=fun vs H Q _=>∃ a,vs=[.ref a]/\H a=some (.lst Yw)/\Q (.bl true) H
def O7:Sp:=fun vs H Q _=>vs=[.int 1,.int 0,.int 1,.int 0]/\Q (.bl true) H
def P9:Sp:=fun vs H Q _=>vs=[.int 1,.int 0,.int 1]/\Q (.int 1) H
def EZ:Sp:=fun vs H Q _=>∃ a b,vs=[.ref a,.ref b,.int 0]/\H a=some (.lst Yw)/\H b=some (.lst [.int 0])/\∀ H',Same H H'->Q (.int 0) H'
def ER:Sp:=fun vs H Q _=>∃ a,vs=[.ref a]/\H a=some (.lst Yw)/\∀ r H',Same H H'->Q (.ref r) H'
def DP (C:Addr):Sp:=fun vs H Q _=>∃ p dx a,vs=[.ref p,.ref a]/\H p=some (.ins C dx [])/\H a=some (.lst Yw)/\∀ H',KB p H H'->Q .non H'
def CJ:Sp:=fun vs H Q _=>∃ a,vs=[.ref a]/\H a=some (.lst [.str "h"])/\∀ H',Same H H'->Q .non H'
theorem JY:Qa (.str "h")=true:=by decide +kernel
theorem NS:(Str.ofString "h").length<=8:=by decide +kernel
section
seal L2.PS L2.PSs L2.PE L2.PA
variable {P:Program} {w:World} {K:zAa} {mg:Str->Option Value} {base:Heap} {Ab Ag Af Am At Ba Az As Ad Au Ak Ah Bg Aj Bb Ap:Addr}
theorem Ti:Bd ["thing", "weight"] ["thing"] (Ar Hm):=⟨rfl,rfl,rfl,by decide +kernel,rfl,by decide +kernel,by decide +kernel⟩
theorem Sv {f:Addr} {fd:zCy} (F:Fun K "are_weights" "are_weights" Hm f fd) (T:Txt K mg) (Cis_whole:Cp P w K mg base 1 "is_whole" ["thing"] (He K)):FnOk P w K mg base Da 2 f fd ["thing"] DT:=by
 have sc:=Ti;refine F.ok sc (fun vs H Q E h=>?_) (fun cdv A outer s H vs Q E hr h=>?_)
 ·obtain⟨_,rfl,_⟩:=h
  rfl
 obtain⟨a,rfl,ha,q⟩:=h;refine⟨_,(Ae (Bt (Df (Cr (Bo Cw rfl T.n_isinstance (show zCx _=some (.builtin "isinstance") from rfl) (Aa (pv 0) (Aa (Lq "list" rfl T.n_list rfl) Ai)))))
    (An (Bc Ee))
    Bk)
   (Ae (Bt (PW.pt (Hf (Bi Gx (Bo Ci rfl T.n_len (show zCx _=some (.builtin "len") from rfl) (Aa (pv 0) Ai)) Al (Bl _)) (Gg (Bi Ty (Bo Ci rfl T.n_len (show zCx _=some (.builtin "len") from rfl) (Aa (pv 0) Ai)) (Dg T.g_MOST_PLACES rfl) (Bl _)))))
    (An (Bc Ee))
    Bk)
   (Ae (Cj PassesOwn.never rfl (Bs (pv 0)) (Ay (i:=1) sc.nd rfl (Or.inl rfl))
    (An (Bt (PW.pt (Hf (Df (Cr (Ax Cis_whole (hr.mono (by decide)) rfl (Aa (pv 1) Ai)))) (Gg (Bi Gx (pv 1) Al (Bl _)))))
    (An (Bc Ee))
    Bk)))
   (An (Bc (Dq Lr (Bo (Js rfl) rfl T.n_sum (show zCx _=some (.builtin "sum") from rfl) (Aa (pv 0) Ai)) (Dg T.g_MOST_TURNS rfl) (Bl _))))))),?_⟩
 refine (vE rfl ⟨_,_,_,_,_,rfl,Lo,.lst ha,FL,_,rfl,Dj ?_⟩);refine (vE rfl ⟨a,_,rfl,.inl (SqL.of ha),vF rfl rfl (vE rfl (dF (by decide) (vE rfl ⟨a,_,rfl,.inl (SqL.of ha),vF rfl rfl (vE rfl (dF (by decide) ?_))⟩)))⟩);refine (vE rfl ⟨a,rfl,⟨_,SqL.of ha⟩,?_⟩);refine Cy (K:=K) (a:=a) (xs:=Yw) (fun i σ H2=>(∃ o,σ=[some (.ref a),o])/\H2=H) ⟨⟨none,rfl⟩,rfl⟩ (fun i σ H2 _ hh=>by rw[hh.2]; exact SqL.of ha) ?_ ?_
 ·rintro i x σ H2 hi ⟨⟨o,rfl⟩,rfl⟩
  obtain rfl:x = .int 1:=by
   match i,hi with
   | 0,h=>cases h; rfl
   | i+1,h=>simp [Yw] at h
  refine Dz [some (.ref a),some (.int 1)] rfl ?_;exact (vE rfl ⟨_,_,rfl,.int 1,_,rfl,Dj (vE rfl (vF rfl rfl (vE rfl (dF (by decide) ⟨⟨_,rfl⟩,rfl⟩))))⟩)
 ·rintro σ H2 ⟨⟨o,rfl⟩,rfl⟩
  exact (vE rfl ⟨a,[1],rfl,SqL.of ha,vF rfl rfl q⟩)
theorem G4:Bd ["weight", "dealt", "total", "turn"] ["weight", "dealt", "total", "turn"] (Ar Mc):=⟨rfl,rfl,rfl,by decide +kernel,rfl,by decide +kernel,by decide +kernel⟩
theorem F7 {f:Addr} {fd:zCy} (F:Fun K "may_have" "may_have" Mc f fd) (T:Txt K mg):FnOk P w K mg base Da 1 f fd ["weight", "dealt", "total", "turn"] O7:=by
 have sc:=G4;refine F.ok sc (fun vs H Q E h=>?_) (fun cdv A outer s H vs Q E hr h=>?_)
 ·obtain⟨rfl,_⟩:=h
  rfl
 obtain⟨rfl,q⟩:=h;refine⟨_,(An (Bc (Dq Gx (Be Fl (pv 1) (pv 2)) (Be Fl (pv 0) (Be Cq (pv 3) Al)) (Bl _)))),?_⟩;exact (vE rfl (vE rfl (vF rfl rfl ⟨.inl ⟨by decide,by decide⟩,vE rfl (vE rfl (vF rfl rfl (vF rfl rfl ⟨.inl ⟨by decide,by decide⟩,vF rfl rfl q⟩)))⟩)))
theorem Z4:Bd ["weight", "dealt", "total"] ["weight", "dealt", "total"] (Ar Rm):=⟨rfl,rfl,rfl,by decide +kernel,rfl,by decide +kernel,by decide +kernel⟩
theorem AB {f:Addr} {fd:zCy} (F:Fun K "due_by" "due_by" Rm f fd) (T:Txt K mg):FnOk P w K mg base Da 1 f fd ["weight", "dealt", "total"] P9:=by
 have sc:=Z4;refine F.ok sc (fun vs H Q E h=>?_) (fun cdv A outer s H vs Q E hr h=>?_)
 ·obtain⟨rfl,_⟩:=h
  rfl
 obtain⟨rfl,q⟩:=h;refine⟨_,(An (Bc (Be Ca (Be Ji (Be Cq (Be Fl (Be Cq (pv 1) Al) (pv 2)) (pv 0)) Al) (pv 0)))),?_⟩;exact (vE rfl (vF rfl rfl (vE rfl (vF rfl rfl ⟨.inl ⟨by decide,by decide⟩,vE rfl (vF rfl rfl (vF rfl rfl (vE rfl (vF rfl rfl ⟨⟨by decide,by decide⟩,q⟩))))⟩))))
theorem Pn:Bd ["weights", "dealt", "turn", "total", "places", "best", "place"] ["weights", "dealt", "turn"] (Ar Fy):=⟨rfl,rfl,rfl,by decide +kernel,rfl,by decide +kernel,by decide +kernel⟩
theorem Ol {f:Addr} {fd:zCy} (F:Fun K "place_of_turn" "place_of_turn" Fy f fd) (T:Txt K mg) (Cmay_have:Cp P w K mg base 1 "may_have" ["weight", "dealt", "total", "turn"] O7) (Cdue_by:Cp P w K mg base 1 "due_by" ["weight", "dealt", "total"] P9):FnOk P w K mg base Da 2 f fd ["weights", "dealt", "turn"] EZ:=by
 have sc:=Pn;refine F.ok sc (fun vs H Q E h=>?_) (fun cdv A outer s H vs Q E hr h=>?_)
 ·obtain⟨_,_,rfl,_⟩:=h
  rfl
 obtain⟨a,b,rfl,ha,hb,q⟩:=h;refine⟨_,(Ae (Bh (i:=3) sc.nd rfl (Or.inr rfl) (Bo (Js rfl) rfl T.n_sum (show zCx _=some (.builtin "sum") from rfl) (Aa (pv 0) Ai)))
   (Ae (Ik (NC:=["k", "total", "turn", "weights", "dealt"]) (own:=["k"]) (cs:=["total", "turn", "weights", "dealt"]) (ix:=[3,2,0,1]) (j:=4) sc.nd rfl rfl rfl (CompScope.of rfl) rfl ⟨⟨rfl,.inl rfl,rfl⟩,⟨⟨rfl,.inl rfl,rfl⟩,⟨⟨rfl,.inl rfl,rfl⟩,⟨⟨rfl,.inl rfl,rfl⟩,trivial⟩⟩⟩⟩ (Do rfl T.n_range (Aa (Bo Ci rfl T.n_len (show zCx _=some (.builtin "len") from rfl) (Aa (pv 0) Ai)) Ai)) (fun _ _ _=>(Ay (i:=0) (show (["k", "total", "turn", "weights", "dealt"]:List Str).Nodup from by decide +kernel) rfl (Or.inl rfl))) (fun _ _ _=>(Gd (Cr (Ax Cmay_have (hr.mono (by decide)) rfl (Aa (Bf (Rq (K:=K) rfl) (pv 3) (pv 0) (fun _ _=>rfl)) (Aa (Bf (Rq (K:=K) rfl) (pv 4) (pv 0) (fun _ _=>rfl)) (Aa (pv 1) (Aa (pv 2) Ai)))))))) (fun _ _ _=>(pv 0)))
   (Ae (Bh (i:=5) sc.nd rfl (Or.inl rfl) (Bf Bp (pv 4) Al (fun _ _=>rfl)))
   (Ae (Cj PassesOwn.never rfl (Bs (pv 4)) (Ay (i:=6) sc.nd rfl (Or.inl rfl))
    (An (Bt (Bi Gx (Ax Cdue_by (hr.mono (by decide)) rfl (Aa (Bf Bp (pv 0) (pv 6) (fun _ _=>rfl)) (Aa (Bf Bp (pv 1) (pv 6) (fun _ _=>rfl)) (Aa (pv 3) Ai)))) (Ax Cdue_by (hr.mono (by decide)) rfl (Aa (Bf Bp (pv 0) (pv 5) (fun _ _=>rfl)) (Aa (Bf Bp (pv 1) (pv 5) (fun _ _=>rfl)) (Aa (pv 3) Ai)))) (Bl _))
    (An (Bh (i:=5) sc.nd rfl (Or.inl rfl) (pv 6)))
    Bk)))
   (An (Bc (pv 5))))))),?_⟩
 refine (vE rfl ⟨a,[1],rfl,SqL.of ha,?_⟩);refine Dz [some (.ref a),some (.ref b),some (.int 0),some (.int 1),none,none,none] rfl ?_;refine (vE rfl ⟨a,_,rfl,.inl (SqL.of ha),vE rfl ⟨by decide,by decide,fun pl npl=>?_⟩⟩);refine Lw (lo:=0) (n:=1) (fun i ys H2=>ys=(if i=0 then [] else [V.int 0])/\H2 pl=some (.lst ys)/\Same H H2) ⟨rfl,Ac,Ao npl _⟩ (fun i ys H2 hi ⟨e,h1,_⟩=>⟨h1,by rw[e]; split <;> simp; lia⟩) (by rw[zCw]; decide) (fun i ys H2 hi ⟨e,h1,s2⟩=>?_) (fun ys H2 ⟨e,h1,s2⟩=>?_)
 ·obtain rfl:i=0:=by lia
  rw[if_pos rfl] at e;subst e;exact (vE rfl (vE rfl (vI rfl rfl (SqL.of (s2 _ _ ha)) rfl (vE rfl (vE rfl (vI rfl rfl (SqL.of (s2 _ _ hb)) rfl (vE rfl (vE rfl ⟨rfl,vE rfl (Kb (vE rfl ⟨h1,rfl,rfl,Ac,fun c o z=>by rw[Aw (Aq z npl)]; exact s2 c o z⟩))⟩))))))))
 rw[if_neg (by decide)] at e;subst e;refine Dz [some (.ref a),some (.ref b),some (.int 0),some (.int 1),some (.ref pl),none,none] rfl ?_;refine (vE rfl (vI rfl rfl (SqL.of h1) rfl ?_));refine Dz [some (.ref a),some (.ref b),some (.int 0),some (.int 1),some (.ref pl),some (.int 0),none] rfl ?_;refine (vE rfl ⟨pl,rfl,⟨_,SqL.of h1⟩,?_⟩);refine Cy (K:=K) (a:=pl) (xs:=[V.int 0]) (fun i σ H3=>(∃ o,σ=[some (.ref a),some (.ref b),some (.int 0),some (.int 1),some (.ref pl),some (.int 0),o])/\H3=H2) ⟨⟨none,rfl⟩,rfl⟩ (fun i σ H3 _ hh=>by rw[hh.2]; exact SqL.of h1) ?_ ?_
 ·rintro i x σ H3 hi ⟨⟨o,rfl⟩,rfl⟩
  obtain rfl:x = .int 0:=by
   match i,hi with
   | 0,h=>cases h; rfl
   | i+1,h=>simp at h
  refine Dz [some (.ref a),some (.ref b),some (.int 0),some (.int 1),some (.ref pl),some (.int 0),some (.int 0)] rfl ?_;have A:=SqL.of (K:=K) (s2 _ _ ha);have B:=SqL.of (K:=K) (s2 _ _ hb);exact (vE rfl (vE rfl ⟨a,_,_,_,rfl,rfl,A,rfl,vE rfl (vE rfl ⟨b,_,_,_,rfl,rfl,B,rfl,vE rfl ⟨rfl,vE rfl (vE rfl ⟨a,_,_,_,rfl,rfl,A,rfl,vE rfl (vE rfl ⟨b,_,_,_,rfl,rfl,B,rfl,vE rfl ⟨rfl,vF rfl rfl (vE rfl (dF (by decide) ⟨⟨_,rfl⟩,rfl⟩))⟩⟩)⟩)⟩⟩)⟩))
 ·rintro σ H3 ⟨⟨o,rfl⟩,rfl⟩
  exact (vE rfl (q _ s2))
theorem CY:Bd ["weights", "dealt", "wheel", "turn", "place"] ["weights"] (Ar Yv):=⟨rfl,rfl,rfl,by decide +kernel,rfl,by decide +kernel,by decide +kernel⟩
theorem DS {f:Addr} {fd:zCy} (F:Fun K "turns" "turns" Yv f fd) (T:Txt K mg) (Care_weights:Cp P w K mg base 2 "are_weights" ["thing"] DT) (Cplace_of_turn:Cp P w K mg base 2 "place_of_turn" ["weights", "dealt", "turn"] EZ):FnOk P w K mg base Da 3 f fd ["weights"] ER:=by
 have sc:=CY;refine F.ok sc (fun vs H Q E h=>?_) (fun cdv A outer s H vs Q E hr h=>?_)
 ·obtain⟨_,rfl,_⟩:=h
  rfl
 obtain⟨a,rfl,ha,q⟩:=h;refine⟨_,(Ae (Bt (Df (Cr (Ax Care_weights (hr.mono (by decide)) rfl (Aa (pv 0) Ai))))
    (An Fa)
    Bk)
   (Ae (Ik (NC:=["weight"]) (own:=["weight"]) (cs:=[]) (ix:=[]) (j:=1) sc.nd rfl rfl rfl (CompScope.of rfl) rfl trivial (Bs (pv 0)) (fun _ _ _=>(Ay (i:=0) (show (["weight"]:List Str).Nodup from by decide +kernel) rfl (Or.inl rfl))) (fun _ _ _=>Cu) (fun _ _ _=>Al))
   (Ae (Bh (i:=2) sc.nd rfl (Or.inl rfl) (Ce Ai))
   (Ae (Cj PassesOwn.never rfl (Do rfl T.n_range (Aa (Bo (Js rfl) rfl T.n_sum (show zCx _=some (.builtin "sum") from rfl) (Aa (pv 0) Ai)) Ai)) (Ay (i:=3) sc.nd rfl (Or.inl rfl))
    (Ae (Bh (i:=4) sc.nd rfl (Or.inl rfl) (Ax Cplace_of_turn (hr.mono (by decide)) rfl (Aa (pv 0) (Aa (pv 1) (Aa (pv 3) Ai)))))
   (Ae (O6 (Be Cq (Bf Bp (pv 1) (pv 4) (fun _ _=>rfl)) Al) (LG (pv 1) (pv 4) CT))
   (An (Ct (Hd PySem.F.plainAttrs_list PySem.F.slot_list_append PySem.F.type_list_append Dv (pv 2) (Aa (pv 4) Ai)))))))
   (An (Bc (pv 2))))))),?_⟩
 refine (vE rfl ⟨a,rfl,ha,_,rfl,Dj ?_⟩);refine (vE rfl ⟨a,rfl,⟨_,SqL.of ha⟩,fun de nde=>?_⟩);refine Bz (K:=K) (a:=a) (xs:=Yw) (fun i ys H2=>ys=(if i=0 then [] else [V.int 0])/\H2 de=some (.lst ys)/\Same H H2) ⟨rfl,Ac,Ao nde _⟩ (fun i ys H2 hi ⟨e,h1,s2⟩=>⟨h1,by rw[e]; split <;> simp; lia,SqL.of (s2 _ _ ha)⟩) (by rw[zCw]; decide) (fun i x ys H2 hi ⟨e,h1,s2⟩=>?_) (fun ys H2 ⟨e,h1,s2⟩=>?_)
 ·have il:=(zAj.mp hi).1
  obtain rfl:i=0:=by have:i<1:=il; lia
  rw[if_pos rfl] at e;subst e;exact⟨h1,rfl,rfl,Ac,fun c o z=>by rw[Aw (Aq z nde)]; exact s2 c o z⟩
 rw[if_neg (by decide)] at e;subst e;refine Dz [some (.ref a),some (.ref de),none,none,none] rfl ?_;refine⟨zAA _,fun wh nwh=>?_⟩;have s3:=Ao nwh (.lst []);have h3:upd H2 wh (.lst []) wh=some (.lst []):=Ac;have nwd:de≠wh:=Aq h1 nwh;generalize upd H2 wh (.lst [])=H3 at s3 h3;refine Dz [some (.ref a),some (.ref de),some (.ref wh),none,none] rfl ?_;have S3:=s2.trans s3;refine (vE rfl ⟨a,[1],rfl,SqL.of (S3 _ _ ha),vE rfl ⟨by decide,by decide,?_⟩⟩);refine Ep (lo:=0) (n:=1) (fun i σ H4=>(∃ o3 o4,σ=[some (.ref a),some (.ref de),some (.ref wh),o3,o4])/\(i=0->H4=H3)/\Same H H4) ⟨⟨none,none,rfl⟩,fun _=>rfl,S3⟩ ?_ ?_
 ·rintro i σ H4 hi ⟨⟨o3,o4,rfl⟩,e4,s4⟩
  obtain rfl:i=0:=by lia
  obtain rfl:=e4 rfl;refine Dz [some (.ref a),some (.ref de),some (.ref wh),some (.int 0),o4] rfl ?_;refine (vE rfl (vE rfl (vE rfl ⟨a,de,rfl,S3 _ _ ha,s3 _ _ h1,fun H5 s5=>?_⟩)));refine Dz [some (.ref a),some (.ref de),some (.ref wh),some (.int 0),some (.int 0)] rfl ?_;have hde:=s5 _ _ (s3 _ _ h1);refine (vE rfl (vE rfl (vI rfl rfl (SqL.of hde) rfl (vF rfl rfl (vE rfl (vE rfl ⟨de,_,_,0,rfl,rfl,hde,rfl,?_⟩))))));have hwh:∀ o,upd H5 de o wh=some (.lst []):=fun o=>by rw[Aw nwd.symm]; exact s5 _ _ h3
  refine (vE rfl ⟨.inl ⟨rfl,_,SqL.of (hwh _)⟩,vE rfl ⟨wh,_,_,rfl,rfl,hwh _,by rw[zCw]; decide,⟨_,_,rfl⟩,(fun e=>by lia),fun c o z=>?_⟩⟩);have fde:H de=none:=nde;rw[Aw (Aq z (s2.free nwh)),Aw (Aq z fde)];exact s5 _ _ (S3 c o z)
 ·rintro σ H4 ⟨⟨o3,o4,rfl⟩,_,s4⟩
  exact (vE rfl (q wh H4 s4))
theorem Pf:Bd ["self", "weights"] ["self", "weights"] (Ar Fz):=⟨rfl,rfl,rfl,by decide +kernel,rfl,by decide +kernel,by decide +kernel⟩
theorem On {f:Addr} {fd:zCy} (F:Fun K "__init__" "Deal.__init__" Fz f fd) (T:Txt K mg) (L:Kl K mg Ab Ag Af Am At Ba Az As Ad Au Ak Ah Bg Aj Bb Ap) (Cturns:Cp P w K mg base 3 "turns" ["weights"] ER):FnOk P w K mg base Da 4 f fd ["self", "weights"] (DP Bg):=by
 have sc:=Pf;refine F.ok sc (fun vs H Q E h=>?_) (fun cdv A outer s H vs Q E hr h=>?_)
 ·obtain⟨_,_,_,rfl,_⟩:=h
  rfl
 obtain⟨p,dx,a,rfl,hp,ha,q⟩:=h;refine⟨_,(Ae (Dc (pv 0) (Ax Cturns (hr.mono (by decide)) rfl (Aa (pv 1) Ai)) rfl)
   (An (Dc (pv 0) (Ec Dt rfl T.n_list (show zCx _=some (.type "list") from rfl) (Aa (pv 1) Ai)) rfl))),?_⟩
 have nap:a≠p:=Eu ha hp (by intro z; cases z);have k0:KB p H H:=fun _ _ e _=>e;refine (vE rfl ⟨a,rfl,ha,fun wh H1 s1=>?_⟩);refine (vE rfl ⟨p,Bg,dx,[],rfl,s1 _ _ hp,L.cl_Deal,L.na_Deal_wheel,(by show 0<1000; decide),?_⟩);have k2:=(k0.same s1).upd (.ins Bg dx (Bv "wheel" (.ref wh) []));refine (vE rfl ⟨a,_,rfl,.inl (SqL.of (k2 _ _ ha nap)),fun wt nwt=>?_⟩);have hpt:p≠wt:=fun z=>by rw[<- z,Ac] at nwt; cases nwt
 refine (vE rfl ⟨p,Bg,dx,_,rfl,(by rw[Aw hpt,Ac]),L.cl_Deal,L.na_Deal_weights,(by show 1<1000; decide),?_⟩);exact q _ ((k2.same (Ao nwt _)).upd _)
theorem Qr:Bd ["houses", "k", "house"] ["houses"] (Ar Gq):=⟨rfl,rfl,rfl,by decide +kernel,rfl,by decide +kernel,by decide +kernel⟩
theorem Qm {f:Addr} {fd:zCy} (F:Fun K "check_houses" "check_houses" Gq f fd) (T:Txt K mg) (Cis_name:Cp P w K mg base 2 "is_name" ["thing"] (Yr K)):FnOk P w K mg base Da 3 f fd ["houses"] CJ:=by
 have sc:=Qr;refine F.ok sc (fun vs H Q E h=>?_) (fun cdv A outer s H vs Q E hr h=>?_)
 ·obtain⟨_,rfl,_⟩:=h
  rfl
 obtain⟨a,rfl,ha,q⟩:=h;refine⟨_,(An (Cj PassesOwn.never rfl (Le rfl T.n_enumerate (Aa (pv 0) Ai)) (Ez (n:=2) rfl (Bm (Ay (i:=1) sc.nd rfl (Or.inl rfl)) (Bm (Ay (i:=2) sc.nd rfl (Or.inl rfl)) Di)))
    (An (Bt (PW.pt (Hf (Df (Cr (Ax Cis_name (hr.mono (by decide)) rfl (Aa (pv 2) Ai)))) (Gg (Bi Oi (pv 2) (Ku Nm (pv 0) No (Oc (pv 1))) rfl))))
    (An Fa)
    Bk)))),?_⟩
 refine (vE rfl ⟨a,rfl,⟨_,SqL.of ha⟩,Np (K:=K) (a:=a) (xs:=[V.str "h"]) (fun i σ H2=>(∃ o1 o2,σ=[some (.ref a),o1,o2])/\Same H H2) ⟨⟨none,none,rfl⟩,fun _ _ z=>z⟩ (fun i σ H2 _ hh=>SqL.of (hh.2 _ _ ha)) ?_ ?_⟩)
 ·rintro i x σ H2 t hi ⟨⟨o1,o2,rfl⟩,s2⟩ nt
  have il:=(zAj.mp hi).1;obtain rfl:i=0:=by have:i<1:=il; lia
  obtain rfl:x = .str "h" := by cases hi; rfl
  have s3:=s2.trans (Ao nt (.tup [V.int 0,.str "h"]));have q3:Qa (.str "h")=true:=JY;refine (vE rfl ⟨_,_,rfl,.str _,(fun y e=>by cases e; exact zAE NS (by decide)),_,rfl,?_⟩);rw[q3];refine Dj (vE rfl (vE rfl (vE rfl (vE rfl ⟨a,_,rfl,SqL.of (s3 _ _ ha),fun m nm=>⟨m,[],rfl,.inl (SqL.of Ac),rfl,rfl,vE rfl (Dj ⟨⟨_,_,rfl⟩,s3.trans (Ao nm _)⟩)⟩⟩))))
 ·rintro σ H2 ⟨⟨o1,o2,rfl⟩,s2⟩
  exact q _ s2
end
def P7 (C:Addr):Sp:=fun vs H Q _=>∃ p dx nm cd c0 cs h0 t,∃ wv:Bool,vs=[.ref p,.str nm,cd,.ref c0,.ref h0,.bl wv]/\H p=some (.ins C dx [])/\(Qa (.str nm)=true/\nm.length<=8/\nm ≠ "self")/\H c0=some (.lst cs)/\cs.length<=8/\H h0=some (.lst [.ref t])/\H t=some (.tup [.str "h",.int 1]) /\
 ∀ H' cl h1 d0 fs,KB p H H'->H' p=some (.ins C d0 fs)->fs.lookup ("name" : Str)=some (.str nm)->fs.lookup ("condition" : Str)=some cd->fs.lookup ("clauses" : Str)=some (.ref cl)->fs.lookup ("houses" : Str)=some (.ref h1)->fs.lookup ("waits" : Str)=some (.bl wv)->noM5 fs->H' cl=some (.lst cs)->H cl=none->H' h1=some (.lst [.str "h"])->H h1=none->Q .non H'
section
variable {P:Program} {w:World} {K:zAa} {mg:Str->Option Value} {base:Heap} {Ab Ag Af Am At Ba Az As Ad Au Ak Ah Bg Aj Bb Ap:Addr}
theorem Na:Bd ["self", "name", "condition", "clauses", "houses", "waits", "pairs"] ["self", "name", "condition", "clauses", "houses", "waits"] (Ar Cd):=⟨rfl,rfl,rfl,by decide +kernel,rfl,by decide +kernel,by decide +kernel⟩
seal L2.PS L2.PSs L2.PE L2.PA
theorem Mw {f:Addr} {fd:zCy} (F:FunD K "__init__" "Cover.__init__" Cd f fd) (T:Txt K mg) (L:Kl K mg Ab Ag Af Am At Ba Az As Ad Au Ak Ah Bg Aj Bb Ap) (Cis_name:Cp P w K mg base 2 "is_name" ["thing"] (Yr K)) (Ccheck_houses:Cp P w K mg base 3 "check_houses" ["houses"] CJ)
  (KDeal:Es P w K mg base 4 "Deal" Bg ["self", "weights"] (DP Bg)):FnOk P w K mg base Da 6 f fd ["self", "name", "condition", "clauses", "houses", "waits"] (P7 Aj):=by
 have sc:=Na;refine F.ok sc (fun vs H Q E h=>?_) (fun cdv A outer s H vs Q E hr h=>?_)
 ·obtain⟨_,_,_,_,_,_,_,_,_,rfl,_⟩:=h
  rfl
 obtain⟨p,dx,nm,cd,c0,cs,h0,t,wv,rfl,hp,⟨nx,n8,ns⟩,hc,l8,hh,ht,q⟩:=h;refine⟨_,(Ae (Bt (PW.pt (Hf (Df (Cr (Ax Cis_name (hr.mono (by decide)) rfl (Aa (pv 1) Ai)))) (Gg (Bi Cf (pv 1) (W6 T.g_COVERED_ONE rfl) (Bl _)))))
    (An Fa)
    Bk)
   (Ae (Dc (pv 0) (pv 1) rfl)
   (Ae (Dc (pv 0) (pv 2) rfl)
   (Ae (Dc (pv 0) (Ju (Bi Tp (pv 3) Gv (Bl _)) (Ce Ai) (Ec Dt rfl T.n_list (show zCx _=some (.type "list") from rfl) (Aa (pv 3) Ai))) rfl)
   (Ae (Bt (Bi Ty (Bo Ci rfl T.n_len (show zCx _=some (.builtin "len") from rfl) (Aa (Cs (pv 0) rfl) Ai)) (Dg T.g_MOST_CLAUSES rfl) (Bl _))
    (An Fa)
    Bk)
   (Ae (Bh (i:=6) sc.nd rfl (Or.inl rfl) (Ju (Bi Tp (pv 4) Gv (Bl _)) (Ce (Aa (Cc (Aa (pv 1) (Aa Al Ai))) Ai)) (pv 4)))
   (Ae (Dc (pv 0) (Cn (NC:=["pair"]) (own:=["pair"]) (cs:=[]) (ix:=[]) rfl (CompScope.of rfl) rfl trivial (Bs (pv 6)) (fun _ _ _=>(Ay (i:=0) (show (["pair"]:List Str).Nodup from by decide +kernel) rfl (Or.inl rfl))) (fun _ _ _=>Cu) (fun _ _ _=>(Bf (Dd (K:=K) rfl) (pv 0) Al (fun _ _=>rfl)))) rfl)
   (Ae (Ct (Ax Ccheck_houses (hr.mono (by decide)) rfl (Aa (Cs (pv 0) rfl) Ai)))
   (Ae (Dc (pv 0) (Dp KDeal (hr.mono (by decide)) rfl (Aa (Cn (NC:=["pair"]) (own:=["pair"]) (cs:=[]) (ix:=[]) rfl (CompScope.of rfl) rfl trivial (Bs (pv 6)) (fun _ _ _=>(Ay (i:=0) (show (["pair"]:List Str).Nodup from by decide +kernel) rfl (Or.inl rfl))) (fun _ _ _=>Cu) (fun _ _ _=>(Bf (Dd (K:=K) rfl) (pv 0) Al (fun _ _=>rfl)))) Ai)) rfl)
   (An (Dc (pv 0) (pv 5) rfl))))))))))),?_⟩
 have k0:KB p H H:=fun _ _ e _=>e;have nc0:c0≠p:=Eu hc hp (by intro z; cases z);have nh0:h0≠p:=Eu hh hp (by intro z; cases z);have nt:t≠p:=Eu ht hp (by intro z; cases z);refine (vE rfl ⟨_,_,rfl,.str nm,(fun y e=>by cases e; exact zAE n8 (by decide)),_,rfl,?_⟩);rw[nx];refine Dj (vE rfl ⟨rfl,vE rfl (dF (fun e=>ns (V.str.inj e)) ?_)⟩);refine (vE rfl (vE rfl ⟨p,Aj,dx,[],rfl,hp,L.cl_Cover,L.na_Cover_name,by decide,?_⟩));refine (vE rfl (vE rfl ⟨p,Aj,dx,_,rfl,Ac,L.cl_Cover,L.na_Cover_condition,zCn (Fo _ _ _) (by decide),?_⟩));have k2:KB p H (upd (upd H p (.ins Aj dx (Bv "name" (.str nm) []))) p (.ins Aj dx (Bv "condition" cd (Bv "name" (.str nm) [])))):=KB.upd (KB.upd k0 _) _;have e2:upd (upd H p (.ins Aj dx (Bv "name" (.str nm) []))) p (.ins Aj dx (Bv "condition" cd (Bv "name" (.str nm) []))) p=some (.ins Aj dx (Bv "condition" cd (Bv "name" (.str nm) []))):=Ac;have g2:(Bv "condition" cd (Bv "name" (.str nm) [])).length<=2:=zAE (Fo _ _ _) (Nat.succ_le_succ (Fo _ _ _));have n2:(Bv "condition" cd (Bv "name" (.str nm) [])).lookup ("name" : Str)=some (.str nm)/\(Bv "condition" cd (Bv "name" (.str nm) [])).lookup ("condition" : Str)=some cd:=⟨by rw[f1 (by decide +kernel),f0],f0⟩;have a2:noM5 (Bv "condition" cd (Bv "name" (.str nm) [])):=noM5.put (noM5.put ⟨rfl,rfl,rfl,rfl,rfl⟩ (by decide +kernel) (by decide +kernel) (by decide +kernel) (by decide +kernel) (by decide +kernel)) (by decide +kernel) (by decide +kernel) (by decide +kernel) (by decide +kernel) (by decide +kernel);generalize Bv "condition" cd (Bv "name" (.str nm) [])=fs2 at k2 e2 g2 n2 a2
 generalize upd (upd H p (.ins Aj dx (Bv "name" (.str nm) []))) p (.ins Aj dx fs2)=H2 at k2 e2;refine (vE rfl ⟨rfl,vE rfl (dF (fun e=>by cases e) (vE rfl ⟨c0,_,rfl,.inl (SqL.of (k2 _ _ hc nc0)),fun cl ncl=>?_⟩))⟩);have s3:=Ao ncl (.lst cs);have ncp:cl≠p:=(Aq e2 ncl).symm;have fcl:H cl=none:=k2.free ncp ncl;refine (vE rfl ⟨p,Aj,dx,fs2,rfl,s3 _ _ e2,L.cl_Cover,L.na_Cover_clauses,by lia,?_⟩);have k3:=(k2.same s3).upd (.ins Aj dx (Bv "clauses" (.ref cl) fs2));have e3:upd (upd H2 cl (.lst cs)) p (.ins Aj dx (Bv "clauses" (.ref cl) fs2)) p=some (.ins Aj dx (Bv "clauses" (.ref cl) fs2)):=Ac;have c3:upd (upd H2 cl (.lst cs)) p (.ins Aj dx (Bv "clauses" (.ref cl) fs2)) cl=some (.lst cs):=by rw[Aw ncp,Ac]
 have g3:(Bv "clauses" (.ref cl) fs2).length<=3:=zAE (Fo _ _ _) (by lia);have n3:(Bv "clauses" (.ref cl) fs2).lookup ("name" : Str)=some (.str nm)/\(Bv "clauses" (.ref cl) fs2).lookup ("condition" : Str)=some cd/\(Bv "clauses" (.ref cl) fs2).lookup ("clauses" : Str)=some (.ref cl):=⟨by rw[f1 (by decide +kernel)]; exact n2.1,by rw[f1 (by decide +kernel)]; exact n2.2,f0⟩;have a3:noM5 (Bv "clauses" (.ref cl) fs2):=a2.put (by decide +kernel) (by decide +kernel) (by decide +kernel) (by decide +kernel) (by decide +kernel);generalize Bv "clauses" (.ref cl) fs2=fs3 at k3 e3 c3 g3 n3 a3;generalize upd (upd H2 cl (.lst cs)) p (.ins Aj dx fs3)=H3 at k3 e3 c3;refine (vE rfl ⟨p,Aj,dx,fs3,_,rfl,e3,L.cl_Cover,L.na_Cover_clauses,n3.2.2,cl,_,rfl,.inl (SqL.of c3),vF rfl rfl (vE rfl (dF (by lia) ?_))⟩);refine (vE rfl ⟨rfl,vE rfl (dF (fun e=>by cases e) (vE rfl ?_))⟩);refine Dz [some (.ref p),some (.str nm),some cd,some (.ref c0),some (.ref h0),some (.bl wv),some (.ref h0)] rfl ?_;have hh3:=k3 _ _ hh nh0;have ht3:=k3 _ _ ht nt;have g1of:∀ {i:Nat} {x:V},[V.ref t][i]?=some x->i=0/\x = .ref t:=fun {i x} h=>by
  match i,h with
  | 0,h=>cases h; exact⟨rfl,rfl⟩
  | i+1,h=>simp at h
 refine (vE rfl ⟨h0,rfl,⟨_,SqL.of hh3⟩,fun h1 nh=>?_⟩);refine Bz (K:=K) (a:=h0) (xs:=[V.ref t]) (fun i zs H5=>zs=(if i=0 then [] else [V.str "h"])/\H5 h1=some (.lst zs)/\Same H3 H5) ⟨rfl,Ac,Ao nh _⟩ (fun i zs H5 hi ⟨e,h1',s5⟩=>⟨h1',by rw[e]; split <;> simp; lia,SqL.of (s5 _ _ hh3)⟩) (by rw[zCw]; show 1<=16777216; decide) (fun i x zs H5 hi ⟨e,h1',s5⟩=>?_) (fun zs H5 ⟨e,h1',s5⟩=>?_)
 ·obtain⟨rfl,rfl⟩:=g1of hi
  rw[if_pos rfl] at e;subst e;exact (vE rfl (vI rfl rfl (SqT.of (s5 _ _ ht3)) rfl ⟨h1',rfl,rfl,Ac,fun b o z=>by rw[Aw (Aq z nh)]; exact s5 b o z⟩))
 rw[if_neg (by show ¬ 1=0; decide)] at e;subst e;have e5:=s5 _ _ e3;have nhp:h1≠p:=(Aq e3 nh).symm;have fh1:H h1=none:=k3.free nhp nh;refine (vE rfl ⟨p,Aj,dx,fs3,rfl,e5,L.cl_Cover,L.na_Cover_houses,by lia,?_⟩);have k6:=(k3.same s5).upd (.ins Aj dx (Bv "houses" (.ref h1) fs3));have e6:upd H5 p (.ins Aj dx (Bv "houses" (.ref h1) fs3)) p=some (.ins Aj dx (Bv "houses" (.ref h1) fs3)):=Ac;have h6:upd H5 p (.ins Aj dx (Bv "houses" (.ref h1) fs3)) h1=some (.lst [.str "h"]):=by rw[Aw nhp]; exact h1'
 have c6:upd H5 p (.ins Aj dx (Bv "houses" (.ref h1) fs3)) cl=some (.lst cs):=by rw[Aw ncp]; exact s5 _ _ c3
 have g6:(Bv "houses" (.ref h1) fs3).length<=4:=zAE (Fo _ _ _) (by lia);have n6:(Bv "houses" (.ref h1) fs3).lookup ("name" : Str)=some (.str nm)/\(Bv "houses" (.ref h1) fs3).lookup ("condition" : Str)=some cd/\(Bv "houses" (.ref h1) fs3).lookup ("clauses" : Str)=some (.ref cl)/\(Bv "houses" (.ref h1) fs3).lookup ("houses" : Str)=some (.ref h1):=⟨by rw[f1 (by decide +kernel)]; exact n3.1,by rw[f1 (by decide +kernel)]; exact n3.2.1,by rw[f1 (by decide +kernel)]; exact n3.2.2,f0⟩;have a6:noM5 (Bv "houses" (.ref h1) fs3):=a3.put (by decide +kernel) (by decide +kernel) (by decide +kernel) (by decide +kernel) (by decide +kernel);generalize Bv "houses" (.ref h1) fs3=fs6 at e6 h6 c6 k6 g6 n6 a6;generalize upd H5 p (.ins Aj dx fs6)=H6 at e6 h6 c6 k6;refine (vE rfl ⟨p,Aj,dx,fs6,_,rfl,e6,L.cl_Cover,L.na_Cover_houses,n6.2.2.2,h1,rfl,h6,fun H7 s7=>?_⟩);have k7:=k6.same s7;have hh7:=k7 _ _ hh nh0;have ht7:=k7 _ _ ht nt;refine (vE rfl ⟨h0,rfl,⟨_,SqL.of hh7⟩,fun wl nwl=>?_⟩);refine Bz (K:=K) (a:=h0) (xs:=[V.ref t]) (fun i zs H8=>zs=(if i=0 then [] else Yw)/\H8 wl=some (.lst zs)/\Same H7 H8) ⟨rfl,Ac,Ao nwl _⟩ (fun i zs H8 hi ⟨e,h2,s8⟩=>⟨h2,by rw[e]; split <;> simp [Yw]; lia,SqL.of (s8 _ _ hh7)⟩) (by rw[zCw]; show 1<=16777216; decide) (fun i x zs H8 hi ⟨e,h2,s8⟩=>?_) (fun zs H8 ⟨e,h2,s8⟩=>?_)
 ·obtain⟨rfl,rfl⟩:=g1of hi
  rw[if_pos rfl] at e;subst e;exact (vE rfl (vI rfl rfl (SqT.of (s8 _ _ ht7)) rfl ⟨h2,rfl,rfl,Ac,fun b o z=>by rw[Aw (Aq z nwl)]; exact s8 b o z⟩))
 rw[if_neg (by show ¬ 1=0; decide)] at e;subst e;intro d dd nd ndd nde;have s9:Same H8 (upd (upd H8 dd (.own d)) d (.ins Bg dd [])):=(Ao ndd _).trans (Ao (by rw[Aw (Ne.symm nde)]; exact nd) _);refine⟨d,dd,wl,rfl,Ac,s9 _ _ h2,fun H9 kp9=>⟨rfl,?_⟩⟩;have s10:Same H6 H9:=s7.trans (s8.trans (Fk nd ndd kp9));refine (vE rfl ⟨p,Aj,dx,fs6,rfl,s10 _ _ e6,L.cl_Cover,L.na_Cover_deal,by lia,?_⟩);have g10:(Bv "deal" (.ref d) fs6).length<=5:=zAE (Fo _ _ _) (by lia);refine (vE rfl (vE rfl ⟨p,Aj,dx,_,rfl,Ac,L.cl_Cover,L.na_Cover_waits,by lia,?_⟩));have lk:∀ {f:Str} {v:V},fs6.lookup f=some v->¬ f = "deal" -> ¬ f = "waits" -> (Bv "waits" (.bl wv) (Bv "deal" (.ref d) fs6)).lookup f=some v:=fun h n1 n2=>by rw[f1 n2,f1 n1]; exact h
 refine q _ cl h1 dx _ (((k6.same s10).upd _).upd _) Ac (lk n6.1 (by decide +kernel) (by decide +kernel)) (lk n6.2.1 (by decide +kernel) (by decide +kernel)) (lk n6.2.2.1 (by decide +kernel) (by decide +kernel)) (lk n6.2.2.2 (by decide +kernel) (by decide +kernel)) f0 (noM5.put (a6.put (by decide +kernel) (by decide +kernel) (by decide +kernel) (by decide +kernel) (by decide +kernel)) (by decide +kernel) (by decide +kernel) (by decide +kernel) (by decide +kernel) (by decide +kernel)) ?_ fcl ?_ fh1
 ·rw[Aw ncp,Aw ncp]; exact s10 _ _ c6
 ·rw[Aw nhp,Aw nhp]; exact s10 _ _ h6
end
def QP (fs:List (Str×V)):Prop:=fs.lookup ("spans" : Str)=none/\fs.lookup ("window" : Str)=none/\fs.lookup ("parts" : Str)=none/\fs.lookup ("rest" : Str)=none
def CvAt (C:Addr) (H:Hp) (p cl:Addr):Prop:=∃ dx fs,H p=some (.ins C dx fs)/\fs.lookup ("clauses" : Str)=some (.ref cl)/\QP fs
theorem CvAt.same {C:Addr} {H H':Hp} {p cl:Addr} (h:CvAt C H p cl) (s:Same H H'):CvAt C H' p cl:=by
 obtain⟨dx,fs,e,r⟩:=h;exact⟨dx,fs,s _ _ e,r⟩
theorem Xg {α:Type} {l:List α} {i:Nat} {x:α} (h:l[i]?=some x):l.drop i=x::l.drop (i+1):=by
 rw[zBv (zAj.mp h).1]
 congr 1
 exact (zAj.mp h).2
def Jl (C:Addr) (f:Str):Sp:=fun vs H Q _=>∃ p dx v,vs=[.ref p,v]/\H p=some (.ins C dx [])/\Q .non (upd H p (.ins C dx (Bv f v [])))
def DM (C:Addr):Sp:=fun vs H Q _=>∃ p dx v w,vs=[.ref p,v,w]/\H p=some (.ins C dx [])/\∀ H',(∀ b,b≠p->H' b=H b)->H' p=some (.ins C dx (Bv "last" w (Bv "first" v [])))->Q .non H'
def Wp (C:Addr):Sp:=fun vs H Q _=>∃ p dx a xs,vs=[.ref p,.ref a]/\H p=some (.ins C dx [])/\H a=some (.lst xs)/\∀ l H',H l=none->(∀ b,b≠p->b≠l->H' b=H b)->H' p=some (.ins C dx (Bv "several" (.ref l) []))->H' l=some (.lst xs)->Q .non H'
def Dx (κ:A8) (m:Nat) (C:Addr):Sp:=fun vs H Q _=>∃ p t l x,vs=[.ref p,.ref l]/\CdAt κ H (.ref p) t/\κ.of t=C/\Mv t<m/\JS H l x/\Q (.bl (hT t x)) H
section
variable {P:Program} {w:World} {K:zAa} {mg:Str->Option Value} {base:Heap} {Ab Ag Af Am At Ba Az As Ad Au Ak Ah Bg Aj Bb Ap:Addr}
theorem IP (L:Kl K mg Ab Ag Af Am At Ba Az As Ad Au Ak Ah Bg Aj Bb Ap):(A8.mk Ab Ag Af Am At Ba Az As).l.Nodup:=by
 first
  | exact L.nd
  | exact List.Nodup.sublist (List.sublist_append_left (A8.mk Ab Ag Af Am At Ba Az As).l _) L.nd
theorem Fn {κ:A8} {C:Addr} {vs:List V} {H:Hp} {Q:VK} {E:XK} (h:Dx κ 0 C vs H Q E):False:=by
 obtain⟨_,_,_,_,_,_,_,h,_⟩:=h;exact absurd h (zBq _)
theorem Ln:Bd ["self", "name"] ["self", "name"] (Ar Eo):=⟨rfl,rfl,rfl,by decide +kernel,rfl,by decide +kernel,by decide +kernel⟩
theorem Ll {f:Addr} {fd:zCy} (F:Fun K "__init__" "CauseIs.__init__" Eo f fd) (L:Kl K mg Ab Ag Af Am At Ba Az As Ad Au Ak Ah Bg Aj Bb Ap):FnOk P w K mg base Da 1 f fd ["self", "name"] (Jl Ag "name"):=by
 have sc:=Ln;refine F.ok sc (fun vs H Q E h=>?_) (fun cdv A outer s H vs Q E hr h=>?_)
 ·obtain⟨_,_,_,rfl,_⟩:=h
  rfl
 obtain⟨p,dx,n,rfl,hp,q⟩:=h;refine⟨_,(An (Dc (pv 0) (pv 1) rfl)),?_⟩;exact (vE rfl (vE rfl ⟨p,_,dx,_,rfl,hp,L.cl_CauseIs,L.na_CauseIs_name,(by show 0<1000; decide),q⟩))
theorem Lk:Bd ["self", "name"] ["self", "name"] (Ar En):=⟨rfl,rfl,rfl,by decide +kernel,rfl,by decide +kernel,by decide +kernel⟩
theorem Li {f:Addr} {fd:zCy} (F:Fun K "__init__" "ThingIs.__init__" En f fd) (L:Kl K mg Ab Ag Af Am At Ba Az As Ad Au Ak Ah Bg Aj Bb Ap):FnOk P w K mg base Da 1 f fd ["self", "name"] (Jl Af "name"):=by
 have sc:=Lk;refine F.ok sc (fun vs H Q E h=>?_) (fun cdv A outer s H vs Q E hr h=>?_)
 ·obtain⟨_,_,_,rfl,_⟩:=h
  rfl
 obtain⟨p,dx,n,rfl,hp,q⟩:=h;refine⟨_,(An (Dc (pv 0) (pv 1) rfl)),?_⟩;exact (vE rfl (vE rfl ⟨p,_,dx,_,rfl,hp,L.cl_ThingIs,L.na_ThingIs_name,(by show 0<1000; decide),q⟩))
theorem Pi:Bd ["self", "cents"] ["self", "cents"] (Ar Fx):=⟨rfl,rfl,rfl,by decide +kernel,rfl,by decide +kernel,by decide +kernel⟩
theorem Pl {f:Addr} {fd:zCy} (F:Fun K "__init__" "Over.__init__" Fx f fd) (L:Kl K mg Ab Ag Af Am At Ba Az As Ad Au Ak Ah Bg Aj Bb Ap):FnOk P w K mg base Da 1 f fd ["self", "cents"] (Jl At "cents"):=by
 have sc:=Pi;refine F.ok sc (fun vs H Q E h=>?_) (fun cdv A outer s H vs Q E hr h=>?_)
 ·obtain⟨_,_,_,rfl,_⟩:=h
  rfl
 obtain⟨p,dx,n,rfl,hp,q⟩:=h;refine⟨_,(An (Dc (pv 0) (pv 1) rfl)),?_⟩;exact (vE rfl (vE rfl ⟨p,_,dx,_,rfl,hp,L.cl_Over,L.na_Over_cents,(by show 0<1000; decide),q⟩))
theorem Qp:Bd ["self", "part"] ["self", "part"] (Ar Go):=⟨rfl,rfl,rfl,by decide +kernel,rfl,by decide +kernel,by decide +kernel⟩
theorem Qw {f:Addr} {fd:zCy} (F:Fun K "__init__" "Not.__init__" Go f fd) (L:Kl K mg Ab Ag Af Am At Ba Az As Ad Au Ak Ah Bg Aj Bb Ap):FnOk P w K mg base Da 1 f fd ["self", "part"] (Jl Ba "part"):=by
 have sc:=Qp;refine F.ok sc (fun vs H Q E h=>?_) (fun cdv A outer s H vs Q E hr h=>?_)
 ·obtain⟨_,_,_,rfl,_⟩:=h
  rfl
 obtain⟨p,dx,n,rfl,hp,q⟩:=h;refine⟨_,(An (Dc (pv 0) (pv 1) rfl)),?_⟩;exact (vE rfl (vE rfl ⟨p,_,dx,_,rfl,hp,L.cl_Not,L.na_Not_part,(by show 0<1000; decide),q⟩))
theorem Lz:Bd ["self", "first", "last"] ["self", "first", "last"] (Ar Fe):=⟨rfl,rfl,rfl,by decide +kernel,rfl,by decide +kernel,by decide +kernel⟩
theorem Mu {f:Addr} {fd:zCy} (F:Fun K "__init__" "DaysIn.__init__" Fe f fd) (L:Kl K mg Ab Ag Af Am At Ba Az As Ad Au Ak Ah Bg Aj Bb Ap):FnOk P w K mg base Da 1 f fd ["self", "first", "last"] (DM Am):=by
 have sc:=Lz;refine F.ok sc (fun vs H Q E h=>?_) (fun cdv A outer s H vs Q E hr h=>?_)
 ·obtain⟨_,_,_,_,rfl,_⟩:=h
  rfl
 obtain⟨p,dx,a,b,rfl,hp,q⟩:=h;refine⟨_,(Ae (Dc (pv 0) (pv 1) rfl)
   (An (Dc (pv 0) (pv 2) rfl))),?_⟩
 refine (vE rfl (vE rfl ⟨p,_,dx,_,rfl,hp,L.cl_DaysIn,L.na_DaysIn_first,(by show 0<1000; decide),?_⟩));exact (vE rfl (vE rfl ⟨p,_,dx,_,rfl,Ac,L.cl_DaysIn,L.na_DaysIn_last,(by show 1<1000; decide),q _ (fun b n=>by rw[Aw n,Aw n]) Ac⟩))
theorem Qk:Bd ["self", "several"] ["self", "several"] (Ar Gp):=⟨rfl,rfl,rfl,by decide +kernel,rfl,by decide +kernel,by decide +kernel⟩
theorem Qq {f:Addr} {fd:zCy} (F:Fun K "__init__" "All.__init__" Gp f fd) (T:Txt K mg) (L:Kl K mg Ab Ag Af Am At Ba Az As Ad Au Ak Ah Bg Aj Bb Ap):FnOk P w K mg base Da 1 f fd ["self", "several"] (Wp Az):=by
 have sc:=Qk;refine F.ok sc (fun vs H Q E h=>?_) (fun cdv A outer s H vs Q E hr h=>?_)
 ·obtain⟨_,_,_,_,rfl,_⟩:=h
  rfl
 obtain⟨p,dx,a,xs,rfl,hp,ha,q⟩:=h;refine⟨_,(An (Dc (pv 0) (Ec Dt rfl T.n_list (show zCx _=some (.type "list") from rfl) (Aa (pv 1) Ai)) rfl)),?_⟩;refine (vE rfl ⟨a,_,rfl,.inl (SqL.of ha),fun l hl=>?_⟩);have hpl:p≠l:=Aq hp hl;exact (vE rfl ⟨p,_,dx,_,rfl,(by rw[Aw hpl]; exact hp),L.cl_All,L.na_All_several,(by show 0<1000; decide),q l _ hl (fun b n1 n2=>by rw[Aw n1,Aw n2]) Ac (by rw[Aw hpl.symm,Ac])⟩)
theorem Ph:Bd ["self", "several"] ["self", "several"] (Ar Ft):=⟨rfl,rfl,rfl,by decide +kernel,rfl,by decide +kernel,by decide +kernel⟩
theorem Pu {f:Addr} {fd:zCy} (F:Fun K "__init__" "Some.__init__" Ft f fd) (T:Txt K mg) (L:Kl K mg Ab Ag Af Am At Ba Az As Ad Au Ak Ah Bg Aj Bb Ap):FnOk P w K mg base Da 1 f fd ["self", "several"] (Wp As):=by
 have sc:=Ph;refine F.ok sc (fun vs H Q E h=>?_) (fun cdv A outer s H vs Q E hr h=>?_)
 ·obtain⟨_,_,_,_,rfl,_⟩:=h
  rfl
 obtain⟨p,dx,a,xs,rfl,hp,ha,q⟩:=h;refine⟨_,(An (Dc (pv 0) (Ec Dt rfl T.n_list (show zCx _=some (.type "list") from rfl) (Aa (pv 1) Ai)) rfl)),?_⟩;refine (vE rfl ⟨a,_,rfl,.inl (SqL.of ha),fun l hl=>?_⟩);have hpl:p≠l:=Aq hp hl;exact (vE rfl ⟨p,_,dx,_,rfl,(by rw[Aw hpl]; exact hp),L.cl_Some,L.na_Some_several,(by show 0<1000; decide),q l _ hl (fun b n1 n2=>by rw[Aw n1,Aw n2]) Ac (by rw[Aw hpl.symm,Ac])⟩)
theorem Lu:Bd ["self", "loss"] ["self", "loss"] (Ar Ev):=⟨rfl,rfl,rfl,by decide +kernel,rfl,by decide +kernel,by decide +kernel⟩
theorem Mh {f:Addr} {fd:zCy} (F:Fun K "holds" "Condition.holds" Ev f fd) (L:Kl K mg Ab Ag Af Am At Ba Az As Ad Au Ak Ah Bg Aj Bb Ap) {m:Nat}:FnOk P w K mg base Da 1 f fd ["self", "loss"] (Dx (A8.mk Ab Ag Af Am At Ba Az As) m Ab):=by
 have sc:=Lu;refine F.ok sc (fun vs H Q E h=>?_) (fun cdv A outer s H vs Q E hr h=>?_)
 ·obtain⟨_,_,_,_,rfl,_⟩:=h
  rfl
 obtain⟨p,t,l,x,rfl,hp,hc,hg,hl,q⟩:=h;obtain rfl:=QS (κ:=A8.mk Ab Ag Af Am At Ba Az As) (IP L) hc;unfold hT at q;exact⟨_,(An (Bc Ee)),q⟩
theorem Os:Bd ["self", "loss"] ["self", "loss"] (Ar Fv):=⟨rfl,rfl,rfl,by decide +kernel,rfl,by decide +kernel,by decide +kernel⟩
theorem Ov {f:Addr} {fd:zCy} (F:Fun K "holds" "CauseIs.holds" Fv f fd) (T:Txt K mg) (L:Kl K mg Ab Ag Af Am At Ba Az As Ad Au Ak Ah Bg Aj Bb Ap) {m:Nat}:FnOk P w K mg base Da 1 f fd ["self", "loss"] (Dx (A8.mk Ab Ag Af Am At Ba Az As) m Ag):=by
 have sc:=Os;refine F.ok sc (fun vs H Q E h=>?_) (fun cdv A outer s H vs Q E hr h=>?_)
 ·obtain⟨_,_,_,_,rfl,_⟩:=h
  rfl
 obtain⟨p,t,l,x,rfl,hp,hc,hg,⟨ev,n,ht⟩,q⟩:=h;obtain⟨nm,rfl⟩:=QT (κ:=A8.mk Ab Ag Af Am At Ba Az As) (IP L) hc;unfold hT at q;unfold CdAt at hp;obtain⟨_,dx,e,hp⟩:=hp;cases e;refine⟨_,(An (Bc (Dq Cf (Bf Bn (pv 1) (Dg T.g_CAUSE rfl) (fun _ _=>rfl)) (Cs (pv 0) rfl) (Bl _)))),?_⟩;exact (vE rfl (vI rfl rfl (SqT.of ht) rfl (vE rfl ⟨p,_,dx,_,_,rfl,hp,L.cl_CauseIs,L.na_CauseIs_name,BM nm,rfl,q⟩)))
theorem Oq:Bd ["self", "loss"] ["self", "loss"] (Ar Fu):=⟨rfl,rfl,rfl,by decide +kernel,rfl,by decide +kernel,by decide +kernel⟩
theorem Ps {f:Addr} {fd:zCy} (F:Fun K "holds" "ThingIs.holds" Fu f fd) (T:Txt K mg) (L:Kl K mg Ab Ag Af Am At Ba Az As Ad Au Ak Ah Bg Aj Bb Ap) {m:Nat}:FnOk P w K mg base Da 1 f fd ["self", "loss"] (Dx (A8.mk Ab Ag Af Am At Ba Az As) m Af):=by
 have sc:=Oq;refine F.ok sc (fun vs H Q E h=>?_) (fun cdv A outer s H vs Q E hr h=>?_)
 ·obtain⟨_,_,_,_,rfl,_⟩:=h
  rfl
 obtain⟨p,t,l,x,rfl,hp,hc,hg,⟨ev,n,ht⟩,q⟩:=h;obtain⟨nm,rfl⟩:=QU (κ:=A8.mk Ab Ag Af Am At Ba Az As) (IP L) hc;unfold hT at q;unfold CdAt at hp;obtain⟨_,dx,e,hp⟩:=hp;cases e;refine⟨_,(An (Bc (Dq Cf (Bf Bn (pv 1) (Dg T.g_THING rfl) (fun _ _=>rfl)) (Cs (pv 0) rfl) (Bl _)))),?_⟩;exact (vE rfl (vI rfl rfl (SqT.of ht) rfl (vE rfl ⟨p,_,dx,_,_,rfl,hp,L.cl_ThingIs,L.na_ThingIs_name,DL nm,rfl,q⟩)))
theorem Qi:Bd ["self", "loss"] ["self", "loss"] (Ar Gz):=⟨rfl,rfl,rfl,by decide +kernel,rfl,by decide +kernel,by decide +kernel⟩
theorem Qz {f:Addr} {fd:zCy} (F:Fun K "holds" "DaysIn.holds" Gz f fd) (T:Txt K mg) (L:Kl K mg Ab Ag Af Am At Ba Az As Ad Au Ak Ah Bg Aj Bb Ap) {m:Nat}:FnOk P w K mg base Da 1 f fd ["self", "loss"] (Dx (A8.mk Ab Ag Af Am At Ba Az As) m Am):=by
 have sc:=Qi;refine F.ok sc (fun vs H Q E h=>?_) (fun cdv A outer s H vs Q E hr h=>?_)
 ·obtain⟨_,_,_,_,rfl,_⟩:=h
  rfl
 obtain⟨p,t,l,x,rfl,hp,hc,hg,⟨ev,n,ht⟩,q⟩:=h;obtain⟨a,b,rfl⟩:=QN (κ:=A8.mk Ab Ag Af Am At Ba Az As) (IP L) hc;unfold hT at q;unfold CdAt at hp;obtain⟨_,dx,e,hp⟩:=hp;cases e;refine⟨_,(An (Bc (Nk Lr Lr (Cs (pv 0) rfl) (Bf Bn (pv 1) (Dg T.g_DAY rfl) (fun _ _=>rfl)) (Cs (pv 0) rfl)))),?_⟩;have q':Q (.bl (decide (a<=x.d)&&decide (x.d<=b))) H:=q;refine (vE rfl ⟨p,_,dx,_,_,rfl,hp,L.cl_DaysIn,L.na_DaysIn_first,DA a b,_,rfl,vI rfl rfl (SqT.of ht) rfl (vF rfl rfl (vE rfl (Qo (fun e=>?_) (fun e=>?_))))⟩)
 ·rw[e,Bool.true_and] at q'
  exact (vE rfl ⟨p,_,dx,_,_,rfl,hp,L.cl_DaysIn,L.na_DaysIn_last,GD a b,_,_,rfl,rfl,q'⟩)
 ·rw[zBa.mpr e,zBH] at q'
  exact q'
theorem Vf:Bd ["self", "loss"] ["self", "loss"] (Ar Ip):=⟨rfl,rfl,rfl,by decide +kernel,rfl,by decide +kernel,by decide +kernel⟩
theorem Uw {f:Addr} {fd:zCy} (F:Fun K "holds" "Over.holds" Ip f fd) (T:Txt K mg) (L:Kl K mg Ab Ag Af Am At Ba Az As Ad Au Ak Ah Bg Aj Bb Ap) {m:Nat}:FnOk P w K mg base Da 1 f fd ["self", "loss"] (Dx (A8.mk Ab Ag Af Am At Ba Az As) m At):=by
 have sc:=Vf;refine F.ok sc (fun vs H Q E h=>?_) (fun cdv A outer s H vs Q E hr h=>?_)
 ·obtain⟨_,_,_,_,rfl,_⟩:=h
  rfl
 obtain⟨p,t,l,x,rfl,hp,hc,hg,⟨ev,n,ht⟩,q⟩:=h;obtain⟨c,rfl⟩:=GG (κ:=A8.mk Ab Ag Af Am At Ba Az As) (IP L) hc;unfold hT at q;unfold CdAt at hp;obtain⟨_,dx,e,hp⟩:=hp;cases e;refine⟨_,(An (Bc (Dq Ty (Bf Bn (pv 1) (Dg T.g_CENTS rfl) (fun _ _=>rfl)) (Cs (pv 0) rfl) (Bl _)))),?_⟩;exact (vE rfl (vI rfl rfl (SqT.of ht) rfl (vE rfl ⟨p,_,dx,_,_,rfl,hp,L.cl_Over,L.na_Over_cents,FF c,_,_,rfl,rfl,q⟩)))
theorem Ya:Bd ["self", "loss"] ["self", "loss"] (Ar Jz):=⟨rfl,rfl,rfl,by decide +kernel,rfl,by decide +kernel,by decide +kernel⟩
theorem Ym {f:Addr} {fd:zCy} (F:Fun K "holds" "Not.holds" Jz f fd) (L:Kl K mg Ab Ag Af Am At Ba Az As Ad Au Ak Ah Bg Aj Bb Ap) {m:Nat} (Mholds:Pb P w K mg base m (A8.Fam (A8.mk Ab Ag Af Am At Ba Az As)) "holds" ["self", "loss"] (Dx (A8.mk Ab Ag Af Am At Ba Az As) m)):FnOk P w K mg base Da (m+1) f fd ["self", "loss"] (Dx (A8.mk Ab Ag Af Am At Ba Az As) (m+1) Ba):=by
 have sc:=Ya;refine F.ok sc (fun vs H Q E h=>?_) (fun cdv A outer s H vs Q E hr h=>?_)
 ·obtain⟨_,_,_,_,rfl,_⟩:=h
  rfl
 obtain⟨p,t,l,x,rfl,hp,hc,hg,hl,q⟩:=h;obtain⟨u,rfl⟩:=RA (κ:=A8.mk Ab Ag Af Am At Ba Az As) (IP L) hc;unfold hT at q;unfold Mv at hg;unfold CdAt at hp;obtain⟨_,dx,v,e,hp,hu⟩:=hp;cases e;obtain⟨pu,du,fu,rfl,eu,n1,_⟩:=hu.obj;refine⟨_,(An (Bc (Xw (Fp Mholds (hr.mono (by lia)) (Cs (pv 0) rfl) (Aa (pv 1) Ai))))),?_⟩;refine (vE rfl ⟨p,_,dx,_,_,rfl,hp,L.cl_Not,L.na_Not_part,P5 _ _,pu,_,du,fu,rfl,eu,A8.fam _ u,n1,_,rfl,pu,u,l,x,rfl,hu,rfl,by lia,hl,?_⟩);exact (vE rfl q)
theorem Xj:Bd ["self", "loss", "part"] ["self", "loss"] (Ar Kq):=⟨rfl,rfl,rfl,by decide +kernel,rfl,by decide +kernel,by decide +kernel⟩
theorem Xv {f:Addr} {fd:zCy} (F:Fun K "holds" "All.holds" Kq f fd) (L:Kl K mg Ab Ag Af Am At Ba Az As Ad Au Ak Ah Bg Aj Bb Ap) {m:Nat} (Mholds:Pb P w K mg base m (A8.Fam (A8.mk Ab Ag Af Am At Ba Az As)) "holds" ["self", "loss"] (Dx (A8.mk Ab Ag Af Am At Ba Az As) m)):FnOk P w K mg base Da (m+1) f fd ["self", "loss"] (Dx (A8.mk Ab Ag Af Am At Ba Az As) (m+1) Az):=by
 have sc:=Xj;refine F.ok sc (fun vs H Q E h=>?_) (fun cdv A outer s H vs Q E hr h=>?_)
 ·obtain⟨_,_,_,_,rfl,_⟩:=h
  rfl
 obtain⟨p,t,l,x,rfl,hp,hc,hg,hl,q⟩:=h;obtain⟨ts,rfl⟩:=QL (κ:=A8.mk Ab Ag Af Am At Ba Az As) (IP L) hc;unfold hT at q;unfold Mv at hg;unfold CdAt at hp;obtain⟨_,dx,a,vs,e,hp,ha,hv⟩:=hp;cases e;refine⟨_,(Ae (Cj PassesOwn.never rfl (Bs (Cs (pv 0) rfl)) (Ay (i:=2) sc.nd rfl (Or.inl rfl))
    (An (Bt (Df (Cr (Fp Mholds (hr.mono (by lia)) (pv 2) (Aa (pv 1) Ai))))
    (An (Bc Ee))
    Bk)))
   (An (Bc Ee))),?_⟩
 have hlen:=hv.len;refine (vE rfl ⟨p,_,dx,_,_,rfl,hp,L.cl_All,L.na_All_several,P5 _ _,a,rfl,⟨_,SqL.of ha⟩,?_⟩);refine Cy (K:=K) (a:=a) (xs:=vs) (fun i σ H2=>(∃ o,σ=[some (.ref p),some (.ref l),o])/\H2=H/\hAll ts x=hAll (ts.drop i) x) ⟨⟨none,rfl⟩,rfl,rfl⟩ (fun i σ H2 _ ⟨_,e,_⟩=>by rw[e]; exact SqL.of ha) ?_ ?_
 ·rintro i v σ H2 hi ⟨⟨o,rfl⟩,rfl,e⟩
  obtain⟨u,eu,hu⟩:=hv.get hi;rw[Y7 eu] at e;obtain⟨pu,du,fu,rfl,ob,n1,_⟩:=hu.obj;refine (vE rfl ⟨pu,_,du,fu,rfl,ob,A8.fam _ u,n1,_,rfl,pu,u,l,x,rfl,hu,rfl,Kz (by lia) i eu,hl,?_⟩);cases hb:hT u x with
  | true=>
   rw[hb,Bool.true_and] at e;exact (vE rfl (Dj ⟨⟨_,rfl⟩,rfl,e⟩))
  | false=>
   rw[hb,zBH] at e;rw[e] at q;exact (vE rfl (Kb q))
 ·rintro σ H2 ⟨⟨o,rfl⟩,rfl,e⟩
  rw[hlen,zBB] at e;rw[e] at q;unfold hAll at q;exact q
theorem Vt:Bd ["self", "loss", "part"] ["self", "loss"] (Ar Jc):=⟨rfl,rfl,rfl,by decide +kernel,rfl,by decide +kernel,by decide +kernel⟩
theorem Vr {f:Addr} {fd:zCy} (F:Fun K "holds" "Some.holds" Jc f fd) (L:Kl K mg Ab Ag Af Am At Ba Az As Ad Au Ak Ah Bg Aj Bb Ap) {m:Nat} (Mholds:Pb P w K mg base m (A8.Fam (A8.mk Ab Ag Af Am At Ba Az As)) "holds" ["self", "loss"] (Dx (A8.mk Ab Ag Af Am At Ba Az As) m)):FnOk P w K mg base Da (m+1) f fd ["self", "loss"] (Dx (A8.mk Ab Ag Af Am At Ba Az As) (m+1) As):=by
 have sc:=Vt;refine F.ok sc (fun vs H Q E h=>?_) (fun cdv A outer s H vs Q E hr h=>?_)
 ·obtain⟨_,_,_,_,rfl,_⟩:=h
  rfl
 obtain⟨p,t,l,x,rfl,hp,hc,hg,hl,q⟩:=h;obtain⟨ts,rfl⟩:=QW (κ:=A8.mk Ab Ag Af Am At Ba Az As) (IP L) hc;unfold hT at q;unfold Mv at hg;unfold CdAt at hp;obtain⟨_,dx,a,vs,e,hp,ha,hv⟩:=hp;cases e;refine⟨_,(Ae (Cj PassesOwn.never rfl (Bs (Cs (pv 0) rfl)) (Ay (i:=2) sc.nd rfl (Or.inl rfl))
    (An (Bt (Cr (Fp Mholds (hr.mono (by lia)) (pv 2) (Aa (pv 1) Ai)))
    (An (Bc Ee))
    Bk)))
   (An (Bc Ee))),?_⟩
 have hlen:=hv.len;refine (vE rfl ⟨p,_,dx,_,_,rfl,hp,L.cl_Some,L.na_Some_several,P5 _ _,a,rfl,⟨_,SqL.of ha⟩,?_⟩);refine Cy (K:=K) (a:=a) (xs:=vs) (fun i σ H2=>(∃ o,σ=[some (.ref p),some (.ref l),o])/\H2=H/\hSom ts x=hSom (ts.drop i) x) ⟨⟨none,rfl⟩,rfl,rfl⟩ (fun i σ H2 _ ⟨_,e,_⟩=>by rw[e]; exact SqL.of ha) ?_ ?_
 ·rintro i v σ H2 hi ⟨⟨o,rfl⟩,rfl,e⟩
  obtain⟨u,eu,hu⟩:=hv.get hi;rw[Y9 eu] at e;obtain⟨pu,du,fu,rfl,ob,n1,_⟩:=hu.obj;refine (vE rfl ⟨pu,_,du,fu,rfl,ob,A8.fam _ u,n1,_,rfl,pu,u,l,x,rfl,hu,rfl,Kz (by lia) i eu,hl,?_⟩);cases hb:hT u x with
  | false=>
   rw[hb,Bool.false_or] at e;exact (vE rfl (Dj ⟨⟨_,rfl⟩,rfl,e⟩))
  | true=>
   rw[hb,Bool.true_or] at e;rw[e] at q;exact (vE rfl (Kb q))
 ·rintro σ H2 ⟨⟨o,rfl⟩,rfl,e⟩
  rw[hlen,zBB] at e;rw[e] at q;unfold hSom at q;exact q
end
inductive Cl where
 | own (y:Str) (d:Int) | lay (y:Str) (a b:Int) | lim (y:Str) (m:Int) | any (y:Str)
def Cl.way:Cl->Str
 | .own y _=>y
 | .lay y _ _=>y
 | .lim y _=>y
 | .any y=>y
def Hb:Cl->List (Str×V)
 | .own y d=>Bv "cents" (.int d) (Bv "by" (.str y) [])
 | .lay y a b=>Bv "upto" (.int b) (Bv "first" (.int a) (Bv "by" (.str y) []))
 | .lim y m=>Bv "most" (.int m) (Bv "by" (.str y) [])
 | .any y=>Bv "by" (.str y) []
def Su (y:Str):Prop:=y = "event" \/ y = "thing" \/ y = "year" \/ y = "loss"
def MZ (d:Int):Prop:=0<=d/\d<=999999999999
def Hy (CC CO CL CM:Addr):Cl->Addr
 | .own _ _=>CO
 | .lay _ _ _=>CL
 | .lim _ _=>CM
 | .any _=>CC
def ClAt (CC CO CL CM:Addr) (H:Hp) (p:Addr) (c:Cl):Prop:=∃ dx,H p=some (.ins (Hy CC CO CL CM c) dx (Hb c))
def Fam (CC CO CL CM:Addr) (C:Addr):Prop:=C=CC\/C=CO\/C=CL\/C=CM
theorem ClAt.same {CC CO CL CM:Addr} {H H':Hp} {p:Addr} {c:Cl} (h:ClAt CC CO CL CM H p c) (s:Same H H'):ClAt CC CO CL CM H' p c:=by
 obtain⟨dx,e⟩:=h;exact⟨dx,s _ _ e⟩
theorem Yx (CC CO CL CM:Addr) (c:Cl):Fam CC CO CL CM (Hy CC CO CL CM c):=by
 cases c with
 | own _ _=>exact .inr (.inl rfl)
 | lay _ _ _=>exact .inr (.inr (.inl rfl))
 | lim _ _=>exact .inr (.inr (.inr rfl))
 | any _=>exact .inl rfl
theorem KC {y:Str} (h:Su y):FQ (.str y) [.str "event",.str "thing",.str "year",.str "loss"]=true:=by
 rcases h with rfl | rfl | rfl | rfl <;> decide +kernel
theorem ON:¬ (("by" : Str) = "cents"):=by decide +kernel
theorem PX:¬ (("by" : Str) = "upto"):=by decide +kernel
theorem OY:¬ (("by" : Str) = "first"):=by decide +kernel
theorem OG:¬ (("by" : Str) = "most"):=by decide +kernel
theorem PU:¬ (("first" : Str) = "upto"):=by decide +kernel
theorem BZ (c:Cl):(Hb c).lookup ("by" : Str)=some (.str c.way):=by
 cases c with
 | own y d=>unfold Hb; rw[Bj,if_neg ON,Bj,if_pos rfl]; rfl
 | lay y a b=>unfold Hb; rw[Bj,if_neg PX,Bj,if_neg OY,Bj,if_pos rfl]; rfl
 | lim y m=>unfold Hb; rw[Bj,if_neg OG,Bj,if_pos rfl]; rfl
 | any y=>unfold Hb; rw[Bj,if_pos rfl]; rfl
theorem CD (y:Str) (d:Int):(Hb (.own y d)).lookup ("cents" : Str)=some (.int d):=by unfold Hb; rw[Bj,if_pos rfl]
theorem FY (y:Str) (a b:Int):(Hb (.lay y a b)).lookup ("upto" : Str)=some (.int b):=by unfold Hb; rw[Bj,if_pos rfl]
theorem EO (y:Str) (a b:Int):(Hb (.lay y a b)).lookup ("first" : Str)=some (.int a):=by unfold Hb; rw[Bj,if_neg PU,Bj,if_pos rfl]
theorem GS (y:Str) (m:Int):(Hb (.lim y m)).lookup ("most" : Str)=some (.int m):=by unfold Hb; rw[Bj,if_pos rfl]
theorem BE (c:Cl) {m:Str} (h1:¬ m = "by") (h2:¬ m = "cents") (h3:¬ m = "first") (h4:¬ m = "upto") (h5:¬ m = "most"):(Hb c).lookup m=none:=by
 cases c with
 | own y d=>unfold Hb; rw[Bj,if_neg h2,Bj,if_neg h1]; rfl
 | lay y a b=>unfold Hb; rw[Bj,if_neg h4,Bj,if_neg h3,Bj,if_neg h1]; rfl
 | lim y n=>unfold Hb; rw[Bj,if_neg h5,Bj,if_neg h1]; rfl
 | any y=>unfold Hb; rw[Bj,if_neg h1]; rfl
theorem GV (c:Cl):(Hb c).lookup ("span" : Str)=none:=BE c (by decide +kernel) (by decide +kernel) (by decide +kernel) (by decide +kernel) (by decide +kernel)
theorem FU (c:Cl):(Hb c).lookup ("room" : Str)=none:=BE c (by decide +kernel) (by decide +kernel) (by decide +kernel) (by decide +kernel) (by decide +kernel)
def P3 (b n k:Int):Int:=CR.minI (CR.maxI (b-n) 0) k
def NF:Cl->Int->Int->Int
 | .own _ d,n,k=>P3 d n k
 | .lay _ a _,n,k=>P3 a n k
 | _,_,_=>0
def MC:Cl->Int->Int->Int
 | .lay _ _ b,n,k=>P3 b n k
 | _,_,k=>k
def Sw:Cl->Int->V
 | .lim _ m,n=>.int (CR.maxI (m-n) 0)
 | _,_=>.non
def A2:Sp:=fun vs H Q _=>∃ n:Int,vs=[.int n]/\MZ n/\Q (.int n) H
def Ys:Sp:=fun vs H Q _=>∃ b n k:Int,vs=[.int b,.int n,.int k]/\Q (.int (P3 b n k)) H
def CG (CC CO CL CM:Addr):Sp:=fun vs H Q _=>∃ p C dx fs y,vs=[.ref p,.str y]/\H p=some (.ins C dx fs)/\Fam CC CO CL CM C/\fs.length<1000/\Su y/\Q .non (upd H p (.ins C dx (Bv "by" (.str y) fs)))
def FD (CC CO CL CM:Addr):Sp:=fun vs H Q _=>∃ p dx y,∃ d:Int,vs=[.ref p,.str y,.int d]/\H p=some (.ins CO dx [])/\Su y/\MZ d/\∀ H',(∀ b o,H b=some o->b≠p->H' b=some o)->ClAt CC CO CL CM H' p (.own y d)->Q .non H'
def DH (CC CO CL CM:Addr):Sp:=fun vs H Q _=>∃ p dx y,∃ a b:Int,vs=[.ref p,.str y,.int a,.int b]/\H p=some (.ins CL dx [])/\Su y/\MZ a/\MZ b/\a<b/\∀ H',(∀ b o,H b=some o->b≠p->H' b=some o)->ClAt CC CO CL CM H' p (.lay y a b)->Q .non H'
def CP (CC CO CL CM:Addr):Sp:=fun vs H Q _=>∃ p dx y,∃ d:Int,vs=[.ref p,.str y,.int d]/\H p=some (.ins CM dx [])/\Su y/\MZ d/\∀ H',(∀ b o,H b=some o->b≠p->H' b=some o)->ClAt CC CO CL CM H' p (.lim y d)->Q .non H'
def Ub (CC CO CL CM:Addr) (C:Addr):Sp:=fun vs H Q _=>∃ p c,∃ n k:Int,vs=[.ref p,.int n,.int k]/\ClAt CC CO CL CM H p c/\Hy CC CO CL CM c=C/\∀ t H',Same H H'->H' t=some (.tup [.int (NF c n k),.int (MC c n k)])->Q (.ref t) H'
def Yk (CC CO CL CM:Addr) (C:Addr):Sp:=fun vs H Q _=>∃ p c,∃ n:Int,vs=[.ref p,.int n]/\ClAt CC CO CL CM H p c/\Hy CC CO CL CM c=C/\Q (Sw c n) H
theorem DC {K:zAa}:zAR K (.type "str") (.type "str")=some true:=by kernel_rfl
section
variable {P:Program} {w:World} {K:zAa} {mg:Str->Option Value} {base:Heap} {Ab Ag Af Am At Ba Az As Ad Au Ak Ah Bg Aj Bb Ap:Addr}
theorem U9 (L:Kl K mg Ab Ag Af Am At Ba Az As Ad Au Ak Ah Bg Aj Bb Ap) {c:Cl} (h:Hy Ad Au Ak Ah c=Ad):∃ y,c = .any y:=by
 have nd:([Ad,Au,Ak,Ah,Bg,Aj,Bb,Ap]:List Addr).Nodup:=by
  have nd0:=List.Nodup.sublist (zBT 8 _) L.nd;exact nd0
 simp only [zAW,zAn,zBc,not_or,or_false] at nd;cases c with
 | any y=>exact⟨y,rfl⟩
 | own _ _=>exact absurd (show Au=Ad from h).symm nd.1.1
 | lay _ _ _=>exact absurd (show Ak=Ad from h).symm nd.1.2.1
 | lim _ _=>exact absurd (show Ah=Ad from h).symm nd.1.2.2.1
theorem W9 (L:Kl K mg Ab Ag Af Am At Ba Az As Ad Au Ak Ah Bg Aj Bb Ap) {c:Cl} (h:Hy Ad Au Ak Ah c=Au):∃ y d,c = .own y d:=by
 have nd:([Ad,Au,Ak,Ah,Bg,Aj,Bb,Ap]:List Addr).Nodup:=by
  have nd0:=List.Nodup.sublist (zBT 8 _) L.nd;exact nd0
 simp only [zAW,zAn,zBc,not_or,or_false] at nd;cases c with
 | own y d=>exact⟨y,d,rfl⟩
 | any _=>exact absurd (show Ad=Au from h) nd.1.1
 | lay _ _ _=>exact absurd (show Ak=Au from h).symm nd.2.1.1
 | lim _ _=>exact absurd (show Ah=Au from h).symm nd.2.1.2.1
theorem S1 (L:Kl K mg Ab Ag Af Am At Ba Az As Ad Au Ak Ah Bg Aj Bb Ap) {c:Cl} (h:Hy Ad Au Ak Ah c=Ak):∃ y a b,c = .lay y a b:=by
 have nd:([Ad,Au,Ak,Ah,Bg,Aj,Bb,Ap]:List Addr).Nodup:=by
  have nd0:=List.Nodup.sublist (zBT 8 _) L.nd;exact nd0
 simp only [zAW,zAn,zBc,not_or,or_false] at nd;cases c with
 | lay y a b=>exact⟨y,a,b,rfl⟩
 | any _=>exact absurd (show Ad=Ak from h) nd.1.2.1
 | own _ _=>exact absurd (show Au=Ak from h) nd.2.1.1
 | lim _ _=>exact absurd (show Ah=Ak from h).symm nd.2.2.1.1
theorem U1 (L:Kl K mg Ab Ag Af Am At Ba Az As Ad Au Ak Ah Bg Aj Bb Ap) {c:Cl} (h:Hy Ad Au Ak Ah c=Ah):∃ y m,c = .lim y m:=by
 have nd:([Ad,Au,Ak,Ah,Bg,Aj,Bb,Ap]:List Addr).Nodup:=by
  have nd0:=List.Nodup.sublist (zBT 8 _) L.nd;exact nd0
 simp only [zAW,zAn,zBc,not_or,or_false] at nd;cases c with
 | lim y m=>exact⟨y,m,rfl⟩
 | any _=>exact absurd (show Ad=Ah from h) nd.1.2.2.1
 | own _ _=>exact absurd (show Au=Ah from h) nd.2.1.2.1
 | lay _ _ _=>exact absurd (show Ak=Ah from h) nd.2.2.1.1
theorem Ng:Bd ["thing"] ["thing"] (Ar Fg):=⟨rfl,rfl,rfl,by decide +kernel,rfl,by decide +kernel,by decide +kernel⟩
theorem Nt {f:Addr} {fd:zCy} (F:Fun K "checked_amount" "checked_amount" Fg f fd) (T:Txt K mg) (Cis_amount:Cp P w K mg base 2 "is_amount" ["thing"] (EB K 999999999999)):FnOk P w K mg base Da 3 f fd ["thing"] A2:=by
 have sc:=Ng;refine F.ok sc (fun vs H Q E h=>?_) (fun cdv A outer s H vs Q E hr h=>?_)
 ·obtain⟨_,rfl,_⟩:=h
  rfl
 obtain⟨n,rfl,⟨h0,h1⟩,q⟩:=h;refine⟨_,(Ae (Bt (Df (Cr (Ax Cis_amount (hr.mono (by decide)) rfl (Aa (pv 0) Ai))))
    (An Fa)
    Bk)
   (An (Bc (pv 0)))),?_⟩
 refine (vE rfl ⟨_,_,rfl,.int n,_,rfl,?_⟩);rw[show PZ 999999999999 (.int n)=true from decide_eq_true ⟨h0,h1⟩];exact Dj (vE rfl q)
theorem Mt:Bd ["self", "by"] ["self", "by"] (Ar Fd):=⟨rfl,rfl,rfl,by decide +kernel,rfl,by decide +kernel,by decide +kernel⟩
theorem Mq {f:Addr} {fd:zCy} (F:Fun K "__init__" "Clause.__init__" Fd f fd) (T:Txt K mg) (L:Kl K mg Ab Ag Af Am At Ba Az As Ad Au Ak Ah Bg Aj Bb Ap):FnOk P w K mg base Da 2 f fd ["self", "by"] (CG Ad Au Ak Ah):=by
 have sc:=Mt;refine F.ok sc (fun vs H Q E h=>?_) (fun cdv A outer s H vs Q E hr h=>?_)
 ·obtain⟨_,_,_,_,_,rfl,_⟩:=h
  rfl
 obtain⟨p,C,dx,fs,y,rfl,hp,fam,hl,hy,q⟩:=h;refine⟨_,(Ae (Bt (PW.pt (Hf (Df (Cr (Bo Cw rfl T.n_isinstance (show zCx _=some (.builtin "isinstance") from rfl) (Aa (pv 1) (Aa (Lq "str" rfl T.n_str rfl) Ai))))) (Gg (Bi Nh (pv 1) (GP T.t_WAYS rfl) rfl))))
    (An Fa)
    Bk)
   (An (Dc (pv 0) (pv 1) rfl))),?_⟩
 refine (vE rfl ⟨_,_,_,_,_,rfl,Lo,.str y,DC,_,rfl,Dj ?_⟩);refine (vE rfl (fun a hs=>⟨a,_,rfl,.inr hs,rfl,rfl,vE rfl ?_⟩));show if (!FQ (.str y) [.str "event",.str "thing",.str "year",.str "loss"])=true then _ else _;rw[KC hy];refine Dj ?_;have cl:Cls K C:=by
  rcases fam with rfl | rfl | rfl | rfl
  ·exact L.cl_Clause
  ·exact L.cl_Own
  ·exact L.cl_Layer
  ·exact L.cl_Limit
 have na:NoAttr K C "by" := by
  rcases fam with rfl | rfl | rfl | rfl
  ·exact L.na_Clause_by
  ·exact L.na_Own_by
  ·exact L.na_Layer_by
  ·exact L.na_Limit_by
 exact (vE rfl (vE rfl ⟨p,C,dx,fs,rfl,hp,cl,na,hl,q⟩))
theorem Qv:Bd ["self", "by", "cents"] ["self", "by", "cents"] (Ar Gm):=⟨rfl,rfl,rfl,by decide +kernel,rfl,by decide +kernel,by decide +kernel⟩
theorem Qj {f:Addr} {fd:zCy} (F:Fun K "__init__" "Own.__init__" Gm f fd) (T:Txt K mg) (L:Kl K mg Ab Ag Af Am At Ba Az As Ad Au Ak Ah Bg Aj Bb Ap) (BClause___init__:DQ P w K mg base 2 "Clause" "__init__" ["self", "by"] (CG Ad Au Ak Ah)) (Cchecked_amount:Cp P w K mg base 3 "checked_amount" ["thing"] A2) :
  FnOk P w K mg base Da 4 f fd ["self", "by", "cents"] (FD Ad Au Ak Ah):=by
 have sc:=Qv;refine F.ok sc (fun vs H Q E h=>?_) (fun cdv A outer s H vs Q E hr h=>?_)
 ·obtain⟨_,_,_,_,rfl,_⟩:=h
  rfl
 obtain⟨p,dx,y,d,rfl,hp,hy,hd,q⟩:=h;refine⟨_,(Ae (Ct (Sg BClause___init__ (hr.mono (by decide)) rfl (Aa (pv 0) (Aa (pv 1) Ai))))
   (An (Dc (pv 0) (Ax Cchecked_amount (hr.mono (by decide)) rfl (Aa (pv 2) Ai)) rfl))),?_⟩
 refine (vE rfl (vE rfl ⟨p,_,dx,[],y,rfl,hp,.inr (.inl rfl),by decide,hy,?_⟩));exact (vE rfl ⟨d,rfl,hd,_,rfl,p,_,dx,_,rfl,Ac,L.cl_Own,L.na_Own_cents,(by show 1<1000; decide),q _ (fun b o z n=>by rw[Aw n,Aw n]; exact z) ⟨dx,Ac⟩⟩)
theorem Ny:Bd ["self", "by", "first", "upto"] ["self", "by", "first", "upto"] (Ar Fi):=⟨rfl,rfl,rfl,by decide +kernel,rfl,by decide +kernel,by decide +kernel⟩
theorem Nv {f:Addr} {fd:zCy} (F:Fun K "__init__" "Layer.__init__" Fi f fd) (T:Txt K mg) (L:Kl K mg Ab Ag Af Am At Ba Az As Ad Au Ak Ah Bg Aj Bb Ap) (BClause___init__:DQ P w K mg base 2 "Clause" "__init__" ["self", "by"] (CG Ad Au Ak Ah)) (Cchecked_amount:Cp P w K mg base 3 "checked_amount" ["thing"] A2) :
  FnOk P w K mg base Da 4 f fd ["self", "by", "first", "upto"] (DH Ad Au Ak Ah):=by
 have sc:=Ny;refine F.ok sc (fun vs H Q E h=>?_) (fun cdv A outer s H vs Q E hr h=>?_)
 ·obtain⟨_,_,_,_,_,rfl,_⟩:=h
  rfl
 obtain⟨p,dx,y,a,b,rfl,hp,hy,ha,hb,hab,q⟩:=h;refine⟨_,(Ae (Ct (Sg BClause___init__ (hr.mono (by decide)) rfl (Aa (pv 0) (Aa (pv 1) Ai))))
   (Ae (Dc (pv 0) (Ax Cchecked_amount (hr.mono (by decide)) rfl (Aa (pv 2) Ai)) rfl)
   (Ae (Dc (pv 0) (Ax Cchecked_amount (hr.mono (by decide)) rfl (Aa (pv 3) Ai)) rfl)
   (An (Bt (Df (Bi Gx (pv 2) (pv 3) (Bl _)))
    (An Fa)
    Bk))))),?_⟩
 refine (vE rfl (vE rfl ⟨p,_,dx,[],y,rfl,hp,.inr (.inr (.inl rfl)),by decide,hy,?_⟩));refine (vE rfl ⟨a,rfl,ha,_,rfl,p,_,dx,_,rfl,Ac,L.cl_Layer,L.na_Layer_first,(by show 1<1000; decide),?_⟩);refine (vE rfl ⟨b,rfl,hb,_,rfl,p,_,dx,_,rfl,Ac,L.cl_Layer,L.na_Layer_upto,(by show 2<1000; decide),?_⟩);refine (vE rfl (vE rfl (vF rfl rfl (vE rfl (nF hab ?_)))));exact q _ (fun b o z n=>by rw[Aw n,Aw n,Aw n]; exact z) ⟨dx,Ac⟩
theorem Ob:Bd ["self", "by", "most"] ["self", "by", "most"] (Ar Fj):=⟨rfl,rfl,rfl,by decide +kernel,rfl,by decide +kernel,by decide +kernel⟩
theorem Ni {f:Addr} {fd:zCy} (F:Fun K "__init__" "Limit.__init__" Fj f fd) (T:Txt K mg) (L:Kl K mg Ab Ag Af Am At Ba Az As Ad Au Ak Ah Bg Aj Bb Ap) (BClause___init__:DQ P w K mg base 2 "Clause" "__init__" ["self", "by"] (CG Ad Au Ak Ah)) (Cchecked_amount:Cp P w K mg base 3 "checked_amount" ["thing"] A2) :
  FnOk P w K mg base Da 4 f fd ["self", "by", "most"] (CP Ad Au Ak Ah):=by
 have sc:=Ob;refine F.ok sc (fun vs H Q E h=>?_) (fun cdv A outer s H vs Q E hr h=>?_)
 ·obtain⟨_,_,_,_,rfl,_⟩:=h
  rfl
 obtain⟨p,dx,y,d,rfl,hp,hy,hd,q⟩:=h;refine⟨_,(Ae (Ct (Sg BClause___init__ (hr.mono (by decide)) rfl (Aa (pv 0) (Aa (pv 1) Ai))))
   (An (Dc (pv 0) (Ax Cchecked_amount (hr.mono (by decide)) rfl (Aa (pv 2) Ai)) rfl))),?_⟩
 refine (vE rfl (vE rfl ⟨p,_,dx,[],y,rfl,hp,.inr (.inr (.inr rfl)),by decide,hy,?_⟩));exact (vE rfl ⟨d,rfl,hd,_,rfl,p,_,dx,_,rfl,Ac,L.cl_Limit,L.na_Limit_most,(by show 1<1000; decide),q _ (fun b o z n=>by rw[Aw n,Aw n]; exact z) ⟨dx,Ac⟩⟩)
def HR (y:Str) (n d:Int) (ev th:Str):V:=if y = "event" then .str ev else if y = "thing" then .str th else if y = "year" then .int (d/365) else .int n
theorem EW (c:Cl):(Hb c).lookup ("key" : Str)=none:=BE c (by decide +kernel) (by decide +kernel) (by decide +kernel) (by decide +kernel) (by decide +kernel)
def W0 (CC CO CL CM:Addr) (C:Addr):Sp:=fun vs H Q _=>∃ p c t ev th ca,∃ n d ct:Int,vs=[.ref p,.ref t]/\ClAt CC CO CL CM H p c/\Hy CC CO CL CM c=C/\H t=some (.tup [.int n,.int d,.str ev,.str th,.str ca,.int ct])/\Q (HR c.way n d ev th) H
def Q4:Sp:=fun vs H Q _=>∃ d:Int,vs=[.int d]/\Q (.int (d/365)) H
theorem FT (L:Kl K mg Ab Ag Af Am At Ba Az As Ad Au Ak Ah Bg Aj Bb Ap) (c:Cl):Cls K (Hy Ad Au Ak Ah c)/\NoAttr K (Hy Ad Au Ak Ah c) "by" := by
 cases c with
 | own _ _=>exact⟨L.cl_Own,L.na_Own_by⟩
 | lay _ _ _=>exact⟨L.cl_Layer,L.na_Layer_by⟩
 | lim _ _=>exact⟨L.cl_Limit,L.na_Limit_by⟩
 | any _=>exact⟨L.cl_Clause,L.na_Clause_by⟩
theorem P2:Bd ["day"] ["day"] (Ar Po):=⟨rfl,rfl,rfl,by decide +kernel,rfl,by decide +kernel,by decide +kernel⟩
theorem Q1 {f:Addr} {fd:zCy} (F:Fun K "year_of" "year_of" Po f fd) (T:Txt K mg):FnOk P w K mg base Da 1 f fd ["day"] Q4:=by
 have sc:=P2;refine F.ok sc (fun vs H Q E h=>?_) (fun cdv A outer s H vs Q E hr h=>?_)
 ·obtain⟨_,rfl,_⟩:=h
  rfl
 obtain⟨d,rfl,q⟩:=h;refine⟨_,(An (Bc (Be Ca (pv 0) (Dg T.g_DAYS_OF_YEAR rfl)))),?_⟩;exact (vE rfl (vF rfl rfl ⟨⟨by decide,by decide⟩,q⟩))
theorem Vk:Bd ["self", "loss"] ["self", "loss"] (Ar Ix):=⟨rfl,rfl,rfl,by decide +kernel,rfl,by decide +kernel,by decide +kernel⟩
theorem Fm {f:Addr} {fd:zCy} (F:Fun K "key" "Clause.key" Ix f fd) (T:Txt K mg) (L:Kl K mg Ab Ag Af Am At Ba Az As Ad Au Ak Ah Bg Aj Bb Ap) (Cyear_of:Cp P w K mg base 1 "year_of" ["day"] Q4) {C:Addr}:FnOk P w K mg base Da 2 f fd ["self", "loss"] (W0 Ad Au Ak Ah C):=by
 have sc:=Vk;refine F.ok sc (fun vs H Q E h=>?_) (fun cdv A outer s H vs Q E hr h=>?_)
 ·obtain⟨_,_,_,_,_,_,_,_,_,rfl,_⟩:=h
  rfl
 obtain⟨p,c,t,ev,th,ca,n,d,ct,rfl,⟨dx,hp⟩,hc,ht,q⟩:=h;obtain⟨cl,na⟩:=FT L c;refine⟨_,(Ae (Bt (Bi Cf (Cs (pv 0) rfl) Br (Bl _))
    (An (Bc (Bf Bn (pv 1) (Dg T.g_EVENT rfl) (fun _ _=>rfl))))
    Bk)
   (Ae (Bt (Bi Cf (Cs (pv 0) rfl) Br (Bl _))
    (An (Bc (Bf Bn (pv 1) (Dg T.g_THING rfl) (fun _ _=>rfl))))
    Bk)
   (Ae (Bt (Bi Cf (Cs (pv 0) rfl) Br (Bl _))
    (An (Bc (Ax Cyear_of (hr.mono (by decide)) rfl (Aa (Bf Bn (pv 1) (Dg T.g_DAY rfl) (fun _ _=>rfl)) Ai))))
    Bk)
   (An (Bc (Bf Bn (pv 1) (Dg T.g_NUMBER rfl) (fun _ _=>rfl))))))),?_⟩
 unfold HR at q;refine (vE rfl ⟨p,_,dx,_,_,rfl,hp,cl,na,BZ c,rfl,vE rfl (Qo (fun e=>?_) (fun e=>?_))⟩)
 ·have e':c.way = "event" := by injection of_decide_eq_true e
  rw[if_pos e'] at q;exact (vE rfl (vI rfl rfl (SqT.of ht) rfl q))
 ·have e':¬ c.way = "event" := fun z=>e (decide_eq_true (by rw[z]))
  rw[if_neg e'] at q;refine (vE rfl ⟨p,_,dx,_,_,rfl,hp,cl,na,BZ c,rfl,vE rfl (Qo (fun f=>?_) (fun f=>?_))⟩)
  ·have f':c.way = "thing" := by injection of_decide_eq_true f
   rw[if_pos f'] at q;exact (vE rfl (vI rfl rfl (SqT.of ht) rfl q))
  ·have f':¬ c.way = "thing" := fun z=>f (decide_eq_true (by rw[z]))
   rw[if_neg f'] at q;refine (vE rfl ⟨p,_,dx,_,_,rfl,hp,cl,na,BZ c,rfl,vE rfl (Qo (fun g=>?_) (fun g=>?_))⟩)
   ·have g':c.way = "year" := by injection of_decide_eq_true g
    rw[if_pos g'] at q;exact (vE rfl (vI rfl rfl (SqT.of ht) rfl ⟨d,rfl,q⟩))
   ·have g':¬ c.way = "year" := fun z=>g (decide_eq_true (by rw[z]))
    rw[if_neg g'] at q;exact (vE rfl (vI rfl rfl (SqT.of ht) rfl q))
theorem N9:Bd ["bound", "count", "cents"] ["bound", "count", "cents"] (Ar Pw):=⟨rfl,rfl,rfl,by decide +kernel,rfl,by decide +kernel,by decide +kernel⟩
theorem M0 {f:Addr} {fd:zCy} (F:Fun K "cent_at" "cent_at" Pw f fd) (T:Txt K mg):FnOk P w K mg base Da 1 f fd ["bound", "count", "cents"] Ys:=by
 have sc:=N9;refine F.ok sc (fun vs H Q E h=>?_) (fun cdv A outer s H vs Q E hr h=>?_)
 ·obtain⟨_,_,_,rfl,_⟩:=h
  rfl
 obtain⟨b,n,k,rfl,q⟩:=h;refine⟨_,(An (Bc (Bo (Ih rfl) rfl T.n_min (show zCx _=some (.builtin "min") from rfl) (Aa (Bo (Ig rfl) rfl T.n_max (show zCx _=some (.builtin "max") from rfl) (Aa (Be Ji (pv 0) (pv 1)) (Aa Al Ai))) (Aa (pv 2) Ai))))),?_⟩;exact (vE rfl (vE rfl (vF rfl rfl ⟨_,_,rfl,vE rfl ⟨_,_,rfl,q⟩⟩)))
theorem Th:Bd ["self", "count", "cents"] ["self", "count", "cents"] (Ar Hq):=⟨rfl,rfl,rfl,by decide +kernel,rfl,by decide +kernel,by decide +kernel⟩
theorem Kp {f:Addr} {fd:zCy} (F:Fun K "span" "Clause.span" Hq f fd) (T:Txt K mg) {C:Addr} (hC:∀ c,Hy Ad Au Ak Ah c=C->∀ n k,NF c n k=0/\MC c n k=k):FnOk P w K mg base Da 2 f fd ["self", "count", "cents"] (Ub Ad Au Ak Ah C):=by
 have sc:=Th;refine F.ok sc (fun vs H Q E h=>?_) (fun cdv A outer s H vs Q E hr h=>?_)
 ·obtain⟨_,_,_,_,rfl,_⟩:=h
  rfl
 obtain⟨p,c,n,k,rfl,hp,hc,q⟩:=h;refine⟨_,(An (Bc (Cc (Aa Al (Aa (pv 2) Ai))))),?_⟩;obtain⟨e1,e2⟩:=hC c hc n k;rw[e1,e2] at q;exact (vE rfl ⟨by show 2<=sizeLine; rw[zCw]; decide,fun t ht=>q t _ (Ao ht _) Ac⟩)
theorem B8:Bd ["self", "count", "cents"] ["self", "count", "cents"] (Ar Mn):=⟨rfl,rfl,rfl,by decide +kernel,rfl,by decide +kernel,by decide +kernel⟩
theorem F9 {f:Addr} {fd:zCy} (F:Fun K "span" "Own.span" Mn f fd) (T:Txt K mg) (L:Kl K mg Ab Ag Af Am At Ba Az As Ad Au Ak Ah Bg Aj Bb Ap) (Ccent_at:Cp P w K mg base 1 "cent_at" ["bound", "count", "cents"] Ys):FnOk P w K mg base Da 2 f fd ["self", "count", "cents"] (Ub Ad Au Ak Ah Au):=by
 have sc:=B8;refine F.ok sc (fun vs H Q E h=>?_) (fun cdv A outer s H vs Q E hr h=>?_)
 ·obtain⟨_,_,_,_,rfl,_⟩:=h
  rfl
 obtain⟨p,c,n,k,rfl,⟨dx,hp⟩,hc,q⟩:=h;obtain⟨y,d,rfl⟩:=W9 L hc;refine⟨_,(An (Bc (Cc (Aa (Ax Ccent_at (hr.mono (by decide)) rfl (Aa (Cs (pv 0) rfl) (Aa (pv 1) (Aa (pv 2) Ai)))) (Aa (pv 2) Ai))))),?_⟩;exact (vE rfl ⟨p,_,dx,_,_,rfl,hp,L.cl_Own,L.na_Own_cents,CD y d,_,rfl,vE rfl ⟨d,n,k,rfl,vE rfl ⟨by show 2<=sizeLine; rw[zCw]; decide,fun t ht=>q t _ (Ao ht _) Ac⟩⟩⟩)
theorem Vl:Bd ["self", "count", "cents"] ["self", "count", "cents"] (Ar Jh):=⟨rfl,rfl,rfl,by decide +kernel,rfl,by decide +kernel,by decide +kernel⟩
theorem Uu {f:Addr} {fd:zCy} (F:Fun K "span" "Layer.span" Jh f fd) (T:Txt K mg) (L:Kl K mg Ab Ag Af Am At Ba Az As Ad Au Ak Ah Bg Aj Bb Ap) (Ccent_at:Cp P w K mg base 1 "cent_at" ["bound", "count", "cents"] Ys):FnOk P w K mg base Da 2 f fd ["self", "count", "cents"] (Ub Ad Au Ak Ah Ak):=by
 have sc:=Vl;refine F.ok sc (fun vs H Q E h=>?_) (fun cdv A outer s H vs Q E hr h=>?_)
 ·obtain⟨_,_,_,_,rfl,_⟩:=h
  rfl
 obtain⟨p,c,n,k,rfl,⟨dx,hp⟩,hc,q⟩:=h;obtain⟨y,a,b,rfl⟩:=S1 L hc;refine⟨_,(An (Bc (Cc (Aa (Ax Ccent_at (hr.mono (by decide)) rfl (Aa (Cs (pv 0) rfl) (Aa (pv 1) (Aa (pv 2) Ai)))) (Aa (Ax Ccent_at (hr.mono (by decide)) rfl (Aa (Cs (pv 0) rfl) (Aa (pv 1) (Aa (pv 2) Ai)))) Ai))))),?_⟩;exact (vE rfl ⟨p,_,dx,_,_,rfl,hp,L.cl_Layer,L.na_Layer_first,EO y a b,_,rfl,vE rfl ⟨a,n,k,rfl,vE rfl ⟨p,_,dx,_,_,rfl,hp,L.cl_Layer,L.na_Layer_upto,FY y a b,_,rfl,vE rfl ⟨b,n,k,rfl,by show 2<=sizeLine; rw[zCw]; decide,fun t ht=>q t _ (Ao ht _) Ac⟩⟩⟩⟩)
theorem Sr:Bd ["self", "paid"] ["self", "paid"] (Ar Ht):=⟨rfl,rfl,rfl,by decide +kernel,rfl,by decide +kernel,by decide +kernel⟩
theorem Gs {f:Addr} {fd:zCy} (F:Fun K "room" "Clause.room" Ht f fd) (T:Txt K mg) {C:Addr} (hC:∀ c,Hy Ad Au Ak Ah c=C->∀ n,Sw c n = .non):FnOk P w K mg base Da 1 f fd ["self", "paid"] (Yk Ad Au Ak Ah C):=by
 have sc:=Sr;refine F.ok sc (fun vs H Q E h=>?_) (fun cdv A outer s H vs Q E hr h=>?_)
 ·obtain⟨_,_,_,rfl,_⟩:=h
  rfl
 obtain⟨p,c,n,rfl,hp,hc,q⟩:=h;refine⟨_,(An (Bc Gv)),?_⟩;rw[hC c hc n] at q;exact q
theorem Vm:Bd ["self", "paid"] ["self", "paid"] (Ar Jf):=⟨rfl,rfl,rfl,by decide +kernel,rfl,by decide +kernel,by decide +kernel⟩
theorem Vc {f:Addr} {fd:zCy} (F:Fun K "room" "Limit.room" Jf f fd) (T:Txt K mg) (L:Kl K mg Ab Ag Af Am At Ba Az As Ad Au Ak Ah Bg Aj Bb Ap):FnOk P w K mg base Da 1 f fd ["self", "paid"] (Yk Ad Au Ak Ah Ah):=by
 have sc:=Vm;refine F.ok sc (fun vs H Q E h=>?_) (fun cdv A outer s H vs Q E hr h=>?_)
 ·obtain⟨_,_,_,rfl,_⟩:=h
  rfl
 obtain⟨p,c,n,rfl,⟨dx,hp⟩,hc,q⟩:=h;obtain⟨y,m,rfl⟩:=U1 L hc;refine⟨_,(An (Bc (Bo (Ig rfl) rfl T.n_max (show zCx _=some (.builtin "max") from rfl) (Aa (Be Ji (Cs (pv 0) rfl) (pv 1)) (Aa Al Ai))))),?_⟩;exact (vE rfl ⟨p,_,dx,_,_,rfl,hp,L.cl_Limit,L.na_Limit_most,GS y m,_,rfl,vF rfl rfl ⟨_,_,rfl,q⟩⟩)
end
def Prs (H:Hp):List V->List CR.Rn->Prop
 | [],[]=>True
 | x::xs,p::ps=>(∃ t,x = .ref t/\H t=some (.tup [.int p.1,.int p.2]))/\Prs H xs ps
 | _,_=>False
def LP (H:Hp) (a:Addr) (ps:List CR.Rn):Prop:=∃ xs,H a=some (.lst xs)/\Prs H xs ps
theorem Prs.len {H:Hp}:∀ {xs:List V} {ps:List CR.Rn},Prs H xs ps->xs.length=ps.length
 | [],[],_=>rfl
 | [],_::_,h=>h.elim
 | _::_,[],h=>h.elim
 | x::xs,p::ps,h=>by rw[zAg,zAg,Prs.len h.2]
theorem Prs.mono {H H':Hp} (s:GX H H'):∀ {xs:List V} {ps:List CR.Rn},Prs H xs ps->Prs H' xs ps
 | [],[],_=>trivial
 | [],_::_,h=>h.elim
 | _::_,[],h=>h.elim
 | x::xs,p::ps,⟨⟨t,e,h⟩,r⟩=>⟨⟨t,e,s _ _ h⟩,Prs.mono s r⟩
theorem Prs.get {H:Hp}:∀ {xs:List V} {ps:List CR.Rn} {i:Nat} {x:V},Prs H xs ps->xs[i]?=some x->∃ t p,ps[i]?=some p/\x = .ref t/\H t=some (.tup [.int p.1,.int p.2])
 | [],[],_,_,_,e=>by simp at e
 | [],_::_,_,_,h,_=>h.elim
 | _::_,[],_,_,h,_=>h.elim
 | x::xs,p::ps,0,y,⟨⟨t,e,h⟩,r⟩,q=>by
  simp at q;subst q;exact⟨t,p,rfl,e,h⟩
 | x::xs,p::ps,i+1,y,⟨_,r⟩,q=>by
  obtain⟨t,p',h1,h2⟩:=Prs.get (i:=i) r (by simpa using q);exact⟨t,p',by simpa using h1,h2⟩
theorem Prs.app {H:Hp}:∀ {xs:List V} {ps:List CR.Rn} {ys:List V} {qs:List CR.Rn},Prs H xs ps->Prs H ys qs->Prs H (xs++ys) (ps++qs)
 | [],[],_,_,_,h=>h
 | [],_::_,_,_,h,_=>h.elim
 | _::_,[],_,_,h,_=>h.elim
 | x::xs,p::ps,_,_,⟨h,r⟩,q=>⟨h,Prs.app r q⟩
theorem Prs.one {H:Hp} {t:Addr} {a b:Int} (h:H t=some (.tup [.int a,.int b])):Prs H [.ref t] [(a,b)]:=⟨⟨t,rfl,h⟩,trivial⟩
theorem Prs.snoc {H:Hp} {xs:List V} {ps:List CR.Rn} {t:Addr} {a b:Int} (r:Prs H xs ps) (h:H t=some (.tup [.int a,.int b])):Prs H (xs++[.ref t]) (ps++[(a,b)]):=r.app (Prs.one h)
theorem LP.same {H H':Hp} {a:Addr} {ps:List CR.Rn} (s:Same H H') (h:LP H a ps):LP H' a ps:=by
 obtain⟨xs,h1,r⟩:=h;exact⟨xs,s _ _ h1,r.mono (Bq s)⟩
def U3:Sp:=fun vs H Q _=>∃ a ps,∃ lo hi:Int,vs=[.ref a,.int lo,.int hi]/\LP H a ps/\ps.length<=1000/\∀ r H',Same H H'->H r=none->LP H' r (CR.cutW ps lo hi)->Q (.ref r) H'
def LY:Sp:=fun vs H Q _=>∃ a ps,∃ n:Int,vs=[.ref a,.int n]/\LP H a ps/\ps.length<=1000/\∀ r H',Same H H'->H r=none->LP H' r (CR.lowW ps n)->Q (.ref r) H'
def JK:Sp:=fun vs H Q _=>∃ a ps,vs=[.ref a,.non]/\LP H a ps/\∀ r H',Same H H'->H r=none->LP H' r ps->Q (.ref r) H'
def Sq:Sp:=fun vs H Q E=>LY vs H Q E\/JK vs H Q E
def O5:Sp:=fun vs H Q _=>∃ t b qs,∃ p:CR.Rn,vs=[.ref t,.ref b]/\H t=some (.tup [.int p.1,.int p.2])/\LP H b qs/\qs.length<=1000/\∀ r H',Same H H'->H r=none->LP H' r (CR.leftW p.2 p.1 qs)->Q (.ref r) H'
def CH:Sp:=fun vs H Q _=>∃ a b ps qs,vs=[.ref a,.ref b]/\LP H a ps/\LP H b qs/\ps.length<=1000/\qs.length<=1000/\∀ r H',Same H H'->H r=none->LP H' r (CR.outW ps qs)->Q (.ref r) H'
section
variable {P:Program} {w:World} {K:zAa} {mg:Str->Option Value} {base:Heap}
theorem Vb:Bd ["runs", "lo", "hi", "cut"] ["runs", "lo", "hi"] (Ar Iu):=⟨rfl,rfl,rfl,by decide +kernel,rfl,by decide +kernel,by decide +kernel⟩
theorem Vo {f:Addr} {fd:zCy} (F:Fun K "cut_within" "cut_within" Iu f fd) (T:Txt K mg):FnOk P w K mg base Da 1 f fd ["runs", "lo", "hi"] U3:=by
 have sc:=Vb;refine F.ok sc (fun vs H Q E h=>?_) (fun cdv A outer s H vs Q E hr h=>?_)
 ·obtain⟨_,_,_,_,rfl,_⟩:=h
  rfl
 obtain⟨a,ps,lo,hi,rfl,⟨xs,ha,pr⟩,hl,q⟩:=h;refine⟨_,(Ae (Ik (NC:=["run", "lo", "hi"]) (own:=["run"]) (cs:=["lo", "hi"]) (ix:=[1,2]) (j:=3) sc.nd rfl rfl rfl (CompScope.of rfl) rfl ⟨⟨rfl,.inl rfl,rfl⟩,⟨⟨rfl,.inl rfl,rfl⟩,trivial⟩⟩ (Bs (pv 0)) (fun _ _ _=>(Ay (i:=0) (show (["run", "lo", "hi"]:List Str).Nodup from by decide +kernel) rfl (Or.inl rfl))) (fun _ _ _=>Cu) (fun _ _ _=>(Cc (Aa (Bo (Ig rfl) rfl T.n_max (show zCx _=some (.builtin "max") from rfl) (Aa (Bf (Dd (K:=K) rfl) (pv 0) Al (fun _ _=>rfl)) (Aa (pv 1) Ai))) (Aa (Bo (Ih rfl) rfl T.n_min (show zCx _=some (.builtin "min") from rfl) (Aa (Bf (Dd (K:=K) rfl) (pv 0) Al (fun _ _=>rfl)) (Aa (pv 2) Ai))) Ai)))))
   (An (Bc (Cn (NC:=["run"]) (own:=["run"]) (cs:=[]) (ix:=[]) rfl (CompScope.of rfl) rfl trivial (Bs (pv 3)) (fun _ _ _=>(Ay (i:=0) (show (["run"]:List Str).Nodup from by decide +kernel) rfl (Or.inl rfl))) (fun _ _ _=>(Gd (Bi Gx (Bf (Dd (K:=K) rfl) (pv 0) Al (fun _ _=>rfl)) (Bf (Dd (K:=K) rfl) (pv 0) Al (fun _ _=>rfl)) (Bl _)))) (fun _ _ _=>(pv 0)))))),?_⟩
 have lx:=pr.len;refine (vE rfl ⟨a,rfl,⟨_,SqL.of ha⟩,fun c hc=>?_⟩);refine Bz (K:=K) (a:=a) (xs:=xs) (fun i ys H2=>Prs H2 ys ((ps.take i).map (CR.cutM lo hi))/\H2 c=some (.lst ys)/\Same H H2) ⟨trivial,Ac,Ao hc _⟩
  (fun i ys H2 _ ⟨e,h1,s1⟩=>⟨h1,by rw[e.len,zAb,zAt]; lia,SqL.of (s1 _ _ ha)⟩) (by rw[lx,zCw]; lia) (fun i x ys H2 hi' ⟨e,h1,s1⟩=>?_) (fun ys H2 ⟨e,h1,s1⟩=>?_)
 ·obtain⟨t,p,hp,rfl,ht⟩:=pr.get hi'
  have ht2:=s1 _ _ ht;refine (vE rfl (vI rfl rfl (SqT.of ht2) rfl (vE rfl ⟨_,_,rfl,vE rfl (vI rfl rfl (SqT.of ht2) rfl (vE rfl ⟨_,_,rfl,by show 2<=sizeLine; rw[zCw]; decide,fun u hu=>?_⟩))⟩)));have s2:=Ao hu (.tup [.int (CR.cutM lo hi p).1,.int (CR.cutM lo hi p).2]);refine⟨s2 _ _ h1,rfl,?_,Ac,fun x o z=>?_⟩
  ·rw[Bu hp,zAp]
   exact ((e.mono (Bq s2)).snoc (a:=(CR.cutM lo hi p).1) (b:=(CR.cutM lo hi p).2) Ac).mono (Dm (s2 _ _ h1) _)
  ·rw[Aw (Aq z hc)]
   exact s2 _ _ (s1 x o z)
 have et:ps.take xs.length=ps:=by rw[lx]; exact zAw
 rw[et] at e;refine (vE rfl ⟨c,rfl,⟨_,SqL.of h1⟩,fun r hr'=>?_⟩);have ly:ys.length=ps.length:=by rw[e.len,zAb]
 refine Bz (K:=K) (a:=c) (xs:=ys) (fun i zs H3=>Prs H3 zs (((ps.map (CR.cutM lo hi)).take i).filter fun p=>decide (p.1<p.2))/\H3 r=some (.lst zs)/\Same H2 H3) ⟨trivial,Ac,Ao hr' _⟩
  (fun i zs H3 _ ⟨e',h1',s1'⟩=>⟨h1',?_,SqL.of (s1' _ _ h1)⟩) (by rw[ly,zCw]; lia) (fun i x zs H3 hi' ⟨e',h1',s1'⟩=>?_) (fun zs H3 ⟨e',h1',s1'⟩=>?_)
 ·rw[e'.len]
  refine zAE (zAG _ _) ?_;rw[zAt]
  lia
 ·obtain⟨t,p,hp,rfl,ht⟩:=e.get hi'
  have ht3:=s1' _ _ ht;refine (vE rfl (vI rfl rfl (SqT.of ht3) rfl (vE rfl (vI rfl rfl (SqT.of ht3) rfl (vF rfl rfl (vE rfl ?_))))));rw[Bu hp,zBD];refine Qo (fun c'=>?_) (fun c'=>?_)
  ·have c2:p.1<p.2:=of_decide_eq_true c'
   refine (vE rfl ⟨h1',rfl,?_,Ac,fun x o z=>?_⟩)
   ·rw[List.filter_cons,if_pos (decide_eq_true c2),zBi]
    exact (e'.snoc (a:=p.1) (b:=p.2) ht3).mono (Dm h1' _)
   ·rw[Aw (Aq z hr')]
    exact s1' x o z
  ·have c2:¬ p.1<p.2:=of_decide_eq_false (zBa.mpr c')
   rw[List.filter_cons,if_neg (by rw[decide_eq_false c2]; exact zAm),zBi,zAU];exact⟨rfl,e',h1',s1'⟩
 ·have et':(ps.map (CR.cutM lo hi)).take ys.length=ps.map (CR.cutM lo hi):=by rw[ly,<- zAb (f:=CR.cutM lo hi)]; exact zAw
  rw[et'] at e';exact q r H3 (s1.trans s1') (s1.free hr') ⟨zs,h1',e'⟩
theorem Yj:Bd ["runs", "n", "kept", "left", "lo", "hi"] ["runs", "n"] (Ar Ke):=⟨rfl,rfl,rfl,by decide +kernel,rfl,by decide +kernel,by decide +kernel⟩
theorem Xi {f:Addr} {fd:zCy} (F:Fun K "lowest_of" "lowest_of" Ke f fd) (T:Txt K mg):FnOk P w K mg base Da 1 f fd ["runs", "n"] Sq:=by
 have sc:=Yj;refine F.ok sc (fun vs H Q E h=>?_) (fun cdv A outer s H vs Q E hr h=>?_)
 ·rcases h with ⟨_,_,_,rfl,_⟩ | ⟨_,_,rfl,_⟩ <;> rfl
 refine⟨_,(Ae (Bt (Bi Tp (pv 1) Gv (Bl _))
    (An (Bc (Ec Dt rfl T.n_list (show zCx _=some (.type "list") from rfl) (Aa (pv 0) Ai))))
    Bk)
   (Ae (Bh (i:=2) sc.nd rfl (Or.inl rfl) (Ce Ai))
   (Ae (Bh (i:=3) sc.nd rfl (Or.inl rfl) (pv 1))
   (Ae (Cj PassesOwn.never rfl (Bs (pv 0)) (Ez (n:=2) rfl (Bm (Ay (i:=4) sc.nd rfl (Or.inl rfl)) (Bm (Ay (i:=5) sc.nd rfl (Or.inl rfl)) Di)))
    (Ae (Bt (Bi Ty (pv 3) Al (Bl _))
    (An (Ct (Hd PySem.F.plainAttrs_list PySem.F.slot_list_append PySem.F.type_list_append Dv (pv 2) (Aa (Cc (Aa (pv 4) (Aa (Bo (Ih rfl) rfl T.n_min (show zCx _=some (.builtin "min") from rfl) (Aa (pv 5) (Aa (Be Cq (pv 4) (pv 3)) Ai))) Ai))) Ai))))
    Bk)
   (An (Bh (i:=3) sc.nd rfl (Or.inl rfl) (Be Ji (pv 3) (Be Ji (pv 5) (pv 4)))))))
   (An (Bc (pv 2))))))),?_⟩
 rcases h with ⟨a,ps,n,rfl,⟨xs,ha,pr⟩,hl,q⟩ | ⟨a,ps,rfl,⟨xs,ha,pr⟩,q⟩
 ·have lx:=pr.len
  refine (vE rfl ⟨rfl,vE rfl (dF (fun z=>nomatch z) ?_)⟩);refine⟨zAA _,fun r hr'=>?_⟩;have s1:Same H (upd H r (.lst [])):=Ao hr' _;refine (vE rfl ?_);refine⟨_,rfl,a,rfl,⟨_,SqL.of (s1 _ _ ha)⟩,Cy (K:=K) (a:=a) (xs:=xs)
   (fun i σ H2=>(∃ o1 o2 ys,∃ left:Int,σ=[some (.ref a),some (.int n),some (.ref r),some (.int left),o1,o2]/\H2 r=some (.lst ys)/\ys.length<=i/\∃ ks,Prs H2 ys ks/\CR.lowW ps n=ks++CR.lowW (ps.drop i) left)/\Same H H2)
   ⟨⟨none,none,[],n,rfl,Ac,zAl _,[],trivial,rfl⟩,s1⟩ (fun i σ H2 _ ⟨_,e⟩=>SqL.of (e _ _ ha)) ?_ ?_⟩
  ·rintro i x σ H2 hi ⟨⟨o1,o2,ys,left,rfl,h1,ly,ks,pk,ek⟩,s2⟩
   obtain⟨t,p,hp,rfl,ht⟩:=pr.get hi;have ht2:=s2 _ _ ht;have hix:i<ps.length:=(zAj.mp hp).1;have ed:ps.drop i=p::ps.drop (i+1):=by
    rw[zBv hix]
    congr 1
    exact (zAj.mp hp).2
   rw[ed,CR.lowW_cons] at ek;refine⟨t,_,rfl,SqT.of ht2,rfl,vC rfl (vC rfl (⟨rfl,?_⟩))⟩;refine (vE rfl (vF rfl rfl (vE rfl (Qo (fun c=>?_) (fun c=>?_)))))
   ·have c':0<left:=of_decide_eq_true c
    rw[if_pos c'] at ek;refine (vE rfl ⟨.inl ⟨rfl,_,SqL.of h1⟩,vE rfl (vE rfl (vE rfl (vE rfl (vF rfl rfl ⟨_,_,rfl,by show 2<=sizeLine; rw[zCw]; decide,fun u hu=>?_⟩))))⟩);have s3:=Ao hu (.tup [.int p.1,.int (if p.1+left<p.2 then p.1+left else p.2)]);refine⟨r,_,_,rfl,rfl,s3 _ _ h1,by rw[zCw]; lia,?_⟩;refine (vE rfl (vE rfl (vE rfl (vF rfl rfl (vF rfl rfl ⟨⟨_,_,_,_,rfl,Ac,by rw[zAi]; exact Nat.add_le_add ly (zAl 1),_,((pk.mono (Bq s3)).snoc Ac).mono (Dm (s3 _ _ h1) _),?_⟩,fun x o z=>?_⟩)))))
    ·rw[ek,zBS]
    ·rw[Aw (Aq z hr')]
     exact s3 _ _ (s2 x o z)
   ·have c':¬ 0<left:=of_decide_eq_false (zBa.mpr c)
    rw[if_neg c'] at ek;refine (vE rfl (vE rfl (vE rfl (vF rfl rfl (vF rfl rfl ⟨⟨_,_,_,_,rfl,h1,by lia,_,pk,?_⟩,s2⟩)))));rw[ek];rfl
  ·rintro σ H2 ⟨⟨o1,o2,ys,left,rfl,h1,ly,ks,pk,ek⟩,s2⟩
   refine (vE rfl (q r H2 s2 hr' ⟨ys,h1,?_⟩));rw[lx,zBB] at ek;rw[ek,CR.lowW_nil,zAU];exact pk
 ·refine (vE rfl ⟨rfl,vE rfl (dT rfl ?_)⟩)
  refine (vE rfl ⟨a,_,rfl,.inl (SqL.of ha),fun r hr'=>?_⟩);have s1:=Ao hr' (.lst xs);exact q r _ s1 hr' ⟨xs,Ac,pr.mono (Bq s1)⟩
theorem Rz:Bd ["run", "others", "left", "begin", "lo", "hi", "end"] ["run", "others"] (Ar Hs):=⟨rfl,rfl,rfl,by decide +kernel,rfl,by decide +kernel,by decide +kernel⟩
theorem Sh {f:Addr} {fd:zCy} (F:Fun K "left_of_run" "left_of_run" Hs f fd) (T:Txt K mg):FnOk P w K mg base Da 1 f fd ["run", "others"] O5:=by
 have sc:=Rz;refine F.ok sc (fun vs H Q E h=>?_) (fun cdv A outer s H vs Q E hr h=>?_)
 ·obtain⟨_,_,_,_,rfl,_⟩:=h
  rfl
 obtain⟨t0,b,qs,p,rfl,ht0,⟨xs,hb,pr⟩,hl,q⟩:=h;refine⟨_,(Ae (Bh (i:=2) sc.nd rfl (Or.inl rfl) (Ce Ai))
   (Ae (Bh (i:=3) sc.nd rfl (Or.inl rfl) (Bf Bn (pv 0) Al (fun _ _=>rfl)))
   (Ae (Cj PassesOwn.never rfl (Bs (pv 1)) (Ez (n:=2) rfl (Bm (Ay (i:=4) sc.nd rfl (Or.inl rfl)) (Bm (Ay (i:=5) sc.nd rfl (Or.inl rfl)) Di)))
    (Ae (Bh (i:=6) sc.nd rfl (Or.inl rfl) (Bo (Ih rfl) rfl T.n_min (show zCx _=some (.builtin "min") from rfl) (Aa (pv 4) (Aa (Bf Bn (pv 0) Al (fun _ _=>rfl)) Ai))))
   (Ae (Bt (Bi Gx (pv 3) (pv 6) (Bl _))
    (An (Ct (Hd PySem.F.plainAttrs_list PySem.F.slot_list_append PySem.F.type_list_append Dv (pv 2) (Aa (Cc (Aa (pv 3) (Aa (pv 6) Ai))) Ai))))
    Bk)
   (An (Bh (i:=3) sc.nd rfl (Or.inl rfl) (Bo (Ig rfl) rfl T.n_max (show zCx _=some (.builtin "max") from rfl) (Aa (pv 3) (Aa (pv 5) Ai))))))))
   (Ae (Bt (Bi Gx (pv 3) (Bf Bn (pv 0) Al (fun _ _=>rfl)) (Bl _))
    (An (Ct (Hd PySem.F.plainAttrs_list PySem.F.slot_list_append PySem.F.type_list_append Dv (pv 2) (Aa (Cc (Aa (pv 3) (Aa (Bf Bn (pv 0) Al (fun _ _=>rfl)) Ai))) Ai))))
    Bk)
   (An (Bc (pv 2))))))),?_⟩
 have lx:=pr.len;refine⟨zAA _,fun r hr'=>?_⟩;have s1:Same H (upd H r (.lst [])):=Ao hr' _;refine (vE rfl (vI rfl rfl (SqT.of (s1 _ _ ht0)) rfl ?_));refine⟨_,rfl,b,rfl,⟨_,SqL.of (s1 _ _ hb)⟩,Cy (K:=K) (a:=b) (xs:=xs)
  (fun i σ H2=>(∃ o1 o2 o3 ys,∃ begin:Int,σ=[some (.ref t0),some (.ref b),some (.ref r),some (.int begin),o1,o2,o3]/\H2 r=some (.lst ys)/\ys.length<=i/\∃ ks,Prs H2 ys ks/\CR.leftW p.2 p.1 qs=ks++CR.leftW p.2 begin (qs.drop i))/\Same H H2)
  ⟨⟨none,none,none,[],p.1,rfl,Ac,zAl _,[],trivial,rfl⟩,s1⟩ (fun i σ H2 _ ⟨_,e⟩=>SqL.of (e _ _ hb)) ?_ ?_⟩
 ·rintro i x σ H2 hi ⟨⟨o1,o2,o3,ys,begin,rfl,h1,ly,ks,pk,ek⟩,s2⟩
  obtain⟨t,p',hp,rfl,ht⟩:=pr.get hi;have ht2:=s2 _ _ ht;have hix:i<qs.length:=(zAj.mp hp).1;have ed:qs.drop i=p'::qs.drop (i+1):=by
   rw[zBv hix]
   congr 1
   exact (zAj.mp hp).2
  rw[ed,CR.leftW_cons] at ek;refine⟨t,_,rfl,SqT.of ht2,rfl,vC rfl (vC rfl (⟨rfl,?_⟩))⟩;refine (vE rfl (vE rfl (vI rfl rfl (SqT.of (s2 _ _ ht0)) rfl ⟨_,_,rfl,?_⟩)));refine (vE rfl (vE rfl (vF rfl rfl (vE rfl (Qo (fun c=>?_) (fun c=>?_))))))
  ·have c':begin<CR.minI p'.1 p.2:=of_decide_eq_true c
   rw[if_pos c'] at ek;refine (vE rfl ⟨.inl ⟨rfl,_,SqL.of h1⟩,vE rfl (vE rfl ⟨by show 2<=sizeLine; rw[zCw]; decide,fun u hu=>?_⟩)⟩);have s3:=Ao hu (.tup [.int begin,.int (CR.minI p'.1 p.2)]);refine⟨r,_,_,rfl,rfl,s3 _ _ h1,by rw[zCw]; lia,?_⟩;refine (vE rfl (vE rfl ⟨_,_,rfl,⟨_,_,_,_,_,rfl,Ac,by rw[zAi]; exact Nat.add_le_add ly (zAl 1),_,((pk.mono (Bq s3)).snoc Ac).mono (Dm (s3 _ _ h1) _),?_⟩,fun x o z=>?_⟩))
   ·rw[ek,zBS]
    rfl
   ·rw[Aw (Aq z hr')]
    exact s3 _ _ (s2 x o z)
  ·have c':¬ begin<CR.minI p'.1 p.2:=of_decide_eq_false (zBa.mpr c)
   rw[if_neg c'] at ek;refine (vE rfl (vE rfl ⟨_,_,rfl,⟨_,_,_,_,_,rfl,h1,by lia,_,pk,?_⟩,s2⟩));rw[ek];rfl
 ·rintro σ H2 ⟨⟨o1,o2,o3,ys,begin,rfl,h1,ly,ks,pk,ek⟩,s2⟩
  rw[lx,zBB,CR.leftW_nil] at ek;refine (vE rfl (vE rfl (vI rfl rfl (SqT.of (s2 _ _ ht0)) rfl (vF rfl rfl (vE rfl (Qo (fun c=>?_) (fun c=>?_)))))))
  ·have c':begin<p.2:=of_decide_eq_true c
   rw[if_pos c'] at ek;refine (vE rfl ⟨.inl ⟨rfl,_,SqL.of h1⟩,vE rfl (vE rfl (vI rfl rfl (SqT.of (s2 _ _ ht0)) rfl ⟨by show 2<=sizeLine; rw[zCw]; decide,fun u hu=>?_⟩))⟩);have s3:=Ao hu (.tup [.int begin,.int p.2]);refine⟨r,_,_,rfl,rfl,s3 _ _ h1,by rw[zCw]; lia,?_⟩;refine (vE rfl (q r _ (fun x o z=>?_) hr' ⟨_,Ac,?_⟩))
   ·rw[Aw (Aq z hr')]
    exact s3 _ _ (s2 x o z)
   ·rw[ek]
    exact ((pk.mono (Bq s3)).snoc Ac).mono (Dm (s3 _ _ h1) _)
  ·have c':¬ begin<p.2:=of_decide_eq_false (zBa.mpr c)
   rw[if_neg c',zAU] at ek;refine (vE rfl (q r _ s2 hr' ⟨_,h1,?_⟩));rw[ek];exact pk
theorem O8:Bd ["runs", "others", "left", "run"] ["runs", "others"] (Ar Ot):=⟨rfl,rfl,rfl,by decide +kernel,rfl,by decide +kernel,by decide +kernel⟩
theorem J1 {f:Addr} {fd:zCy} (F:Fun K "cut_out" "cut_out" Ot f fd) (T:Txt K mg) (Cleft_of_run:Cp P w K mg base 1 "left_of_run" ["run", "others"] O5):FnOk P w K mg base Da 2 f fd ["runs", "others"] CH:=by
 have sc:=O8;refine F.ok sc (fun vs H Q E h=>?_) (fun cdv A outer s H vs Q E hr h=>?_)
 ·obtain⟨_,_,_,_,rfl,_⟩:=h
  rfl
 obtain⟨a,b,ps,qs,rfl,⟨xs,ha,pr⟩,lq,hl,hl',q⟩:=h;refine⟨_,(Ae (Bh (i:=2) sc.nd rfl (Or.inl rfl) (Ce Ai))
   (Ae (Cj PassesOwn.never rfl (Bs (pv 0)) (Ay (i:=3) sc.nd rfl (Or.inl rfl))
    (An (Ct (Hd PySem.F.plainAttrs_list PySem.F.slot_list_extend PySem.F.type_list_extend Ld (pv 2) (Aa (Ax Cleft_of_run (hr.mono (by decide)) rfl (Aa (pv 3) (Aa (pv 1) Ai))) Ai)))))
   (An (Bc (pv 2))))),?_⟩
 have lx:=pr.len;refine⟨zAA _,fun r hr'=>?_⟩;have s1:Same H (upd H r (.lst [])):=Ao hr' _;refine⟨_,rfl,a,rfl,⟨_,SqL.of (s1 _ _ ha)⟩,Cy (K:=K) (a:=a) (xs:=xs)
  (fun i σ H2=>(∃ o1 ys,σ=[some (.ref a),some (.ref b),some (.ref r),o1]/\H2 r=some (.lst ys)/\Prs H2 ys (CR.outW (ps.take i) qs))/\Same H H2)
  ⟨⟨none,[],rfl,Ac,trivial⟩,s1⟩ (fun i σ H2 _ ⟨_,e⟩=>SqL.of (e _ _ ha)) ?_ ?_⟩
 ·rintro i x σ H2 hi ⟨⟨o1,ys,rfl,h1,pk⟩,s2⟩
  obtain⟨t,p,hp,rfl,ht⟩:=pr.get hi;have hix:i<ps.length:=(zAj.mp hp).1;refine (vE rfl ⟨.inl ⟨rfl,_,SqL.of h1⟩,vE rfl (vE rfl ⟨t,b,qs,p,rfl,s2 _ _ ht,lq.same s2,hl',fun u H3 s3 hu ⟨zs,hz,pz⟩=>?_⟩)⟩);have e1:(CR.outW (ps.take i) qs).length<=1000*1001:=zAE (CR.outW_len _ _) (Nat.mul_le_mul (by rw[zAt]; lia) (by lia));have e2:(CR.leftW p.2 p.1 qs).length<=1001:=zAE (CR.leftW_len _ _ _) (by lia);refine⟨r,u,_,_,rfl,rfl,s3 _ _ h1,hz,by rw[pk.len,pz.len,zCw]; lia,⟨_,_,rfl,Ac,?_⟩,fun x o z=>?_⟩
  ·have e:CR.outW (ps.take (i+1)) qs=CR.outW (ps.take i) qs++CR.leftW p.2 p.1 qs:=by
    rw[Bu hp];unfold CR.outW;rw[zAp,List.flatten_append,List.map_singleton,List.flatten_singleton]
   rw[e];exact ((pk.mono (Bq s3)).app pz).mono (Dm (s3 _ _ h1) _)
  ·rw[Aw (Aq z hr')]
   exact s3 _ _ (s2 x o z)
 ·rintro σ H2 ⟨⟨o1,ys,rfl,h1,pk⟩,s2⟩
  rw[lx,zAw] at pk;exact (vE rfl (q r H2 s2 hr' ⟨ys,h1,pk⟩))
end
theorem Trs.last {H:Hp}:∀ {xs:List V} {ps:List Tr} {p:Tr},Trs H xs (ps++[p])->∃ ys t,xs=ys++[.ref t]/\H t=some (.tup [.int p.1,.int p.2.1,.int p.2.2])/\Trs H ys ps
 | [],[],_,h=>h.elim
 | [x],[],_,⟨⟨t,e,h⟩,_⟩=>⟨[],t,by rw[e]; rfl,h,trivial⟩
 | x::y::xs,[],_,⟨_,h⟩=>h.elim
 | [],q::ps,_,h=>h.elim
 | x::xs,q::ps,p,⟨z,r⟩=>by
  obtain⟨ys,t,e,h,r'⟩:=Trs.last (ps:=ps) r;exact⟨x::ys,t,by rw[e]; rfl,h,z,r'⟩
abbrev FO:=Int×Int
def Sps (H:Hp):List V->List FO->Prop
 | [],[]=>True
 | x::xs,p::ps=>(∃ t,x = .ref t/\H t=some (.tup [.int p.1,.int p.2]))/\Sps H xs ps
 | _,_=>False
theorem Sps.len {H:Hp}:∀ {xs:List V} {ps:List FO},Sps H xs ps->xs.length=ps.length
 | [],[],_=>rfl
 | [],_::_,h=>h.elim
 | _::_,[],h=>h.elim
 | x::xs,p::ps,h=>by rw[zAg,zAg,Sps.len h.2]
theorem Sps.mono {H H':Hp} (s:GX H H'):∀ {xs:List V} {ps:List FO},Sps H xs ps->Sps H' xs ps
 | [],[],_=>trivial
 | [],_::_,h=>h.elim
 | _::_,[],h=>h.elim
 | x::xs,p::ps,⟨⟨t,e,h⟩,r⟩=>⟨⟨t,e,s _ _ h⟩,Sps.mono s r⟩
theorem Sps.get {H:Hp}:∀ {xs:List V} {ps:List FO} {i:Nat} {x:V},Sps H xs ps->xs[i]?=some x->∃ t p,ps[i]?=some p/\x = .ref t/\H t=some (.tup [.int p.1,.int p.2])
 | [],[],_,_,_,e=>by simp at e
 | [],_::_,_,_,h,_=>h.elim
 | _::_,[],_,_,h,_=>h.elim
 | x::xs,p::ps,0,y,⟨⟨t,e,h⟩,r⟩,q=>by
  simp at q;subst q;exact⟨t,p,rfl,e,h⟩
 | x::xs,p::ps,i+1,y,⟨_,r⟩,q=>by
  obtain⟨t,p',h1,h2⟩:=Sps.get (i:=i) r (by simpa using q);exact⟨t,p',by simpa using h1,h2⟩
theorem Sps.snoc {H:Hp}:∀ {xs:List V} {ps:List FO} {t:Addr} {a b:Int},Sps H xs ps->H t=some (.tup [.int a,.int b])->Sps H (xs++[.ref t]) (ps++[(a,b)])
 | [],[],t,_,_,_,h=>⟨⟨t,rfl,h⟩,trivial⟩
 | [],_::_,_,_,_,r,_=>r.elim
 | _::_,[],_,_,_,r,_=>r.elim
 | x::xs,p::ps,_,_,_,⟨z,r⟩,h=>⟨z,Sps.snoc r h⟩
def Cls4 (CC CO CL CM:Addr) (H:Hp):List V->List Cl->Prop
 | [],[]=>True
 | x::xs,c::cs=>(∃ p,x = .ref p/\ClAt CC CO CL CM H p c)/\Cls4 CC CO CL CM H xs cs
 | _,_=>False
theorem Cls4.len {CC CO CL CM:Addr} {H:Hp}:∀ {xs:List V} {cs:List Cl},Cls4 CC CO CL CM H xs cs->xs.length=cs.length
 | [],[],_=>rfl
 | [],_::_,h=>h.elim
 | _::_,[],h=>h.elim
 | x::xs,c::cs,h=>by rw[zAg,zAg,Cls4.len h.2]
theorem Cls4.get {CC CO CL CM:Addr} {H:Hp}:∀ {xs:List V} {cs:List Cl} {i:Nat} {x:V},Cls4 CC CO CL CM H xs cs->xs[i]?=some x->∃ p c,cs[i]?=some c/\x = .ref p/\ClAt CC CO CL CM H p c
 | [],[],_,_,_,e=>by simp at e
 | [],_::_,_,_,h,_=>h.elim
 | _::_,[],_,_,h,_=>h.elim
 | x::xs,c::cs,0,y,⟨⟨p,e,h⟩,r⟩,q=>by
  simp at q;subst q;exact⟨p,c,rfl,e,h⟩
 | x::xs,c::cs,i+1,y,⟨_,r⟩,q=>by
  obtain⟨p,c',h1,h2⟩:=Cls4.get (i:=i) r (by simpa using q);exact⟨p,c',by simpa using h1,h2⟩
def NN (H H':Hp):Prop:=∀ t C dx fs,H t=some (.ins C dx fs)->H' t=some (.ins C dx fs)
theorem Ib {H H':Hp} (s:Same H H'):NN H H':=fun t _ _ _ h=>s t _ h
theorem V0 {H:Hp} {l:Addr} {xs:List V} (h:H l=some (.lst xs)) (o:HO):NN H (upd H l o):=fun t _ _ _ z=>by
 rw[Aw (Eu z h (by intro e; cases e))];exact z
theorem Cls4.mono {CC CO CL CM:Addr} {H H':Hp} (s:NN H H'):∀ {xs:List V} {ps:List Cl},Cls4 CC CO CL CM H xs ps->Cls4 CC CO CL CM H' xs ps
 | [],[],_=>trivial
 | [],_::_,h=>h.elim
 | _::_,[],h=>h.elim
 | x::xs,p::ps,⟨⟨t,e,dx,h⟩,r⟩=>⟨⟨t,e,dx,s _ _ _ _ h⟩,Cls4.mono s r⟩
theorem Cls4.snoc {CC CO CL CM:Addr} {H:Hp}:∀ {xs:List V} {cs:List Cl} {p:Addr} {c:Cl},Cls4 CC CO CL CM H xs cs->ClAt CC CO CL CM H p c->Cls4 CC CO CL CM H (xs++[.ref p]) (cs++[c])
 | [],[],p,_,_,h=>⟨⟨p,rfl,h⟩,trivial⟩
 | [],_::_,_,_,z,_=>z.elim
 | _::_,[],_,_,z,_=>z.elim
 | x::xs,c::cs,_,_,⟨z,r⟩,h=>⟨z,Cls4.snoc r h⟩
def EY (k:Int) (c:Cl) (n:Int):FO:=(NF c n k,MC c n k)
def Bx (k:Int) (cs:List Cl) (ns:List Int):List FO:=List.zipWith (EY k) cs ns
theorem L5 {k:Int} {cs:List Cl} {ns:List Int} {i:Nat} {c:Cl} {n:Int} (h1:cs[i]?=some c) (h2:ns[i]?=some n):Bx k (cs.take (i+1)) (ns.take (i+1))=Bx k (cs.take i) (ns.take i)++[EY k c n]:=by
 unfold Bx;rw[Bu h1,Bu h2,List.zipWith_append (by
  have:=(zAj.mp h1).1;have:=(zAj.mp h2).1;rw[zAt,zAt]
  lia)]
 rfl
theorem Oy {k:Int} {cs:List Cl} {ns:List Int} (h:ns.length=cs.length):(Bx k cs ns).length=cs.length:=by unfold Bx; rw[List.length_zipWith]; lia
def KJ:Sp:=fun vs H Q _=>∃ a xs sp,∃ c:Int,vs=[.ref a,.int c]/\H a=some (.lst xs)/\Sps H xs sp/\sp.length<=60/\∀ H',Same H H'->Q (.int (CRP.fw sp c)) H'
def NW (sp:List FO) (cents y:Int):Prop:=y=0\/y=cents\/∃ p∈sp,y=p.1\/y=p.2
def ES:Sp:=fun vs H Q _=>∃ a xs sp,∃ cents:Int,vs=[.ref a,.int cents]/\H a=some (.lst xs)/\Sps H xs sp/\sp.length<=8/\∀ (l:Addr) (ms:List Int) (H':Hp),Same H H'->H l=none->H' l=some (.lst (ms.map V.int))->ms.Pairwise (· < ·)->(∀ y,y∈ms↔NW sp cents y)->ms.length<=20->Q (.ref l) H'
theorem FK:∀ {ms ns:List Int},ms.Nodup->(∀ y∈ms,y∈ns)->ms.length<=ns.length
 | [],_,_,_=>zAA _
 | x::ms,ns,nd,h=>by
  rw[zAW] at nd;have hx:=h x zAk;have ih:=FK (ns:=ns.erase x) nd.2 fun y hy=>(zCd (fun z:y=x=>nd.1 (by rw[<- z]; exact hy))).mpr (h y (zAd _ hy));rw[zBL hx] at ih;have:0<ns.length:=zBR hx;rw[zAg]
  lia
theorem JF {ms ns:List Int} (h:ms.Pairwise (· < ·)) (m:∀ y∈ms,y∈ns):ms.length<=ns.length:=by
 have nd:ms.Nodup:=h.imp fun {a b} z=>by lia
 exact FK nd m
section
variable {P:Program} {w:World} {K:zAa} {mg:Str->Option Value} {base:Heap} {Ab Ag Af Am At Ba Az As Ad Au Ak Ah Bg Aj Bb Ap:Addr}
theorem Pq:Bd ["spans", "cent", "k", "span"] ["spans", "cent"] (Ar Fq):=⟨rfl,rfl,rfl,by decide +kernel,rfl,by decide +kernel,by decide +kernel⟩
theorem Oj {f:Addr} {fd:zCy} (F:Fun K "first_without" "first_without" Fq f fd) (T:Txt K mg):FnOk P w K mg base Da 1 f fd ["spans", "cent"] KJ:=by
 have sc:=Pq;refine F.ok sc (fun vs H Q E h=>?_) (fun cdv A outer s H vs Q E hr h=>?_)
 ·obtain⟨_,_,_,_,rfl,_⟩:=h
  rfl
 obtain⟨a,xs,sp,c,rfl,ha,ps,l60,q⟩:=h;refine⟨_,(Ae (Cj PassesOwn.never rfl (Le rfl T.n_enumerate (Aa (pv 0) Ai)) (Ez (n:=2) rfl (Bm (Ay (i:=2) sc.nd rfl (Or.inl rfl)) (Bm (Ay (i:=3) sc.nd rfl (Or.inl rfl)) Di)))
    (An (Bt (PW.pt (Hf (Bi Gx (pv 1) (Bf Bn (pv 3) Al (fun _ _=>rfl)) (Bl _)) (Gg (Bi MV (pv 1) (Bf Bn (pv 3) Al (fun _ _=>rfl)) (Bl _)))))
    (An (Bc (pv 2)))
    Bk)))
   (An (Bc (Wj Pc Al)))),?_⟩
 have lx:=ps.len;refine (vE rfl ⟨a,rfl,⟨_,SqL.of ha⟩,Np (K:=K) (a:=a) (xs:=xs) (fun i σ H2=>((∃ o1 o2,σ=[some (.ref a),some (.int c),o1,o2])/\CRP.fw sp c=CRP.fwFrom (sp.drop i) i c)/\Same H H2) ⟨⟨⟨none,none,rfl⟩,rfl⟩,fun _ _ z=>z⟩ (fun i σ H2 _ ⟨_,e⟩=>SqL.of (e _ _ ha)) ?_ ?_⟩)
 ·rintro i x σ H2 t hi ⟨⟨⟨o1,o2,rfl⟩,e⟩,s2⟩ nt
  obtain⟨u,p,hp,rfl,hu⟩:=ps.get hi;have s3:=s2.trans (Ao nt (.tup [.int i,.ref u]));have hu3:=s3 _ _ hu;rw[Xg hp] at e;have e2:CRP.fw sp c=if c<p.1\/p.2<=c then (i:Int) else CRP.fwFrom (sp.drop (i+1)) ((i:Int)+1) c:=e;refine (vE rfl (vE rfl (vI rfl rfl (SqT.of hu3) rfl (vF rfl rfl (vE rfl ?_)))));by_cases c1:c<p.1
  ·rw[if_pos (.inl c1)] at e2
   refine dT c1 (Kb (vE rfl ?_));have:=q _ s3;rw[e2] at this;exact this
  refine dF c1 (vE rfl (vE rfl (vI rfl rfl (SqT.of hu3) rfl (vF rfl rfl (vE rfl ?_)))));by_cases c2:p.2<=c
  ·rw[if_pos (.inr c2)] at e2
   refine dT c2 (vE rfl ?_);have:=q _ s3;rw[e2] at this;exact this
  ·rw[if_neg (by lia)] at e2
   exact dF c2 ⟨⟨⟨_,_,rfl⟩,by rw[e2]; rfl⟩,s3⟩
 ·rintro σ H2 ⟨⟨⟨o1,o2,rfl⟩,e⟩,s2⟩
  rw[lx,zBB] at e;have:=q _ s2;rw[e] at this;exact (vE rfl this)
theorem Yh:Bd ["spans", "cents", "bounds", "span"] ["spans", "cents"] (Ar Kh):=⟨rfl,rfl,rfl,by decide +kernel,rfl,by decide +kernel,by decide +kernel⟩
theorem Zr {f:Addr} {fd:zCy} (F:Fun K "bounds_of" "bounds_of" Kh f fd) (T:Txt K mg):FnOk P w K mg base Da 1 f fd ["spans", "cents"] ES:=by
 have sc:=Yh;refine F.ok sc (fun vs H Q E h=>?_) (fun cdv A outer s H vs Q E hr h=>?_)
 ·obtain⟨_,_,_,_,rfl,_⟩:=h
  rfl
 obtain⟨a,xs,sp,cents,rfl,ha,ps,l8,q⟩:=h;refine⟨_,(Ae (Bh (i:=2) sc.nd rfl (Or.inl rfl) (Ce (Aa Al (Aa (pv 1) Ai))))
   (Ae (Cj PassesOwn.never rfl (Bs (pv 0)) (Ay (i:=3) sc.nd rfl (Or.inl rfl))
    (An (Ct (Hd PySem.F.plainAttrs_list PySem.F.slot_list_extend PySem.F.type_list_extend P1 (pv 2) (Aa (pv 3) Ai)))))
   (An (Bc (O9 (pv 2) rfl rfl T.n_sorted rfl T.n_set))))),?_⟩
 have lx:=ps.len;refine (vE rfl ⟨By (by show 2<=1000; decide),fun b nb=>?_⟩);have nab:a≠b:=Aq ha nb;refine⟨_,rfl,a,rfl,⟨_,SqL.of (Ao nb _ _ _ ha)⟩,Cy (K:=K) (a:=a) (xs:=xs) (fun i σ H2=>(∃ o,σ=[some (.ref a),some (.int cents),some (.ref b),o])/\H2 b=some (.lst ((0::cents::(sp.take i).flatMap fun p=>[p.1,p.2]).map V.int))/\Same H H2) ⟨⟨none,rfl⟩,Ac,Ao nb _⟩
  (fun i σ H2 _ ⟨_,_,e⟩=>SqL.of (e _ _ ha)) ?_ ?_⟩
 ·rintro i x σ H2 hi ⟨⟨o,rfl⟩,hb,s2⟩
  obtain⟨u,p,hp,rfl,hu⟩:=ps.get hi;have il:i<sp.length:=(zAj.mp hp).1;have fl:∀ l:List FO,(l.flatMap fun p=>[p.1,p.2]).length=2*l.length:=fun l=>by
   induction l with
   | nil=>rfl
   | cons y l ih=>simp only [List.flatMap_cons,zAi,zAg,List.length_nil,ih]; lia
  refine (vE rfl ⟨.inl ⟨rfl,_,SqL.of hb⟩,vE rfl ⟨b,u,_,_,rfl,rfl,hb,s2 _ _ hu,?_,⟨⟨_,rfl⟩,?_,fun y o z=>?_⟩⟩⟩)
  ·rw[zAb,zAg,zAg,fl,zAt,zCw]
   show _+2<=_
   lia
  ·rw[Ac,Bu hp,List.flatMap_append]
   congr 2
   show List.map V.int _++[V.int p.1,V.int p.2]=List.map V.int (0::cents::(_++_));rw[<- zCt,<- zCt,zAp];rfl
  ·rw[Aw (Aq z nb)]
   exact s2 y o z
 ·rintro σ H2 ⟨⟨o,rfl⟩,hb,s2⟩
  rw[lx,zAw] at hb;have fl:∀ l:List FO,(l.flatMap fun p=>[p.1,p.2]).length=2*l.length:=fun l=>by
   induction l with
   | nil=>rfl
   | cons y l ih=>simp only [List.flatMap_cons,zAi,zAg,List.length_nil,ih]; lia
  have ln:(0::cents::sp.flatMap fun p=>[p.1,p.2]).length<=20:=by rw[zAg,zAg,fl]; lia
  refine (vE rfl ⟨b,_,rfl,SqL.of hb,by lia,fun l ms nl up mem=>q l ms _ (s2.trans (Ao nl _)) (s2.free nl) Ac up (fun y=>?_) ?_⟩)
  ·rw[mem y]
   unfold NW;constructor
   ·intro hy
    rcases zAn.mp hy with z | z
    ·exact .inl z
    rcases zAn.mp z with z | z
    ·exact .inr (.inl z)
    ·obtain⟨p,hp,hy'⟩:=List.mem_flatMap.mp z
     refine .inr (.inr ⟨p,hp,?_⟩)
     simpa using hy'
   ·rintro (z | z | ⟨p,hp,z⟩)
    ·rw[z]; exact zAk
    ·rw[z]; exact zAd _ zAk
    ·refine zAd _ (zAd _ (List.mem_flatMap.mpr ⟨p,hp,?_⟩))
     simpa using z
  ·exact zAE (JF up fun y hy=>(mem y).mp hy) ln
def Ej:List (Option Int)->Int->Option (Int×Int)->Option (Int×Int)
 | [],_,o=>o
 | none::r,k,o=>Ej r (k+1) o
 | some n::r,k,none=>Ej r (k+1) (some (n,k))
 | some n::r,k,some (m,j)=>Ej r (k+1) (if n<m then some (n,k) else some (m,j))
def IO:V->Option Int
 | .int n=>some n
 | _=>none
def RV (H:Hp) (v:V):Option (Int×Int)->Prop
 | none=>v = .non
 | some (n,k)=>∃ t,v = .ref t/\H t=some (.tup [.int n,.int k])
theorem RV.same {H H':Hp} {v:V} (s:Same H H'):∀ {o:Option (Int×Int)},RV H v o->RV H' v o
 | none,h=>h
 | some (n,k),⟨t,e,h⟩=>⟨t,e,s _ _ h⟩
def Ck (cs:List Cl) (ns:List Int):List (Option Int):=List.zipWith (fun c n=>IO (Sw c n)) cs ns
def Yq (CC CO CL CM C:Addr):Sp:=fun vs H Q _=>∃ p cl ct xs cs ns,vs=[.ref p,.ref ct]/\CvAt C H p cl/\H cl=some (.lst xs)/\Cls4 CC CO CL CM H xs cs/\H ct=some (.lst (List.map V.int ns))/\ns.length=cs.length /\
 ∀ v H',Same H H'->RV H' v (Ej (Ck cs ns) 0 none)->Q v H'
theorem EI (c:Cl) (n:Int):Sw c n = .non\/∃ m:Int,Sw c n = .int m:=by
 cases c with
 | own y d=>exact .inl rfl
 | lay y a b=>exact .inl rfl
 | lim y m=>exact .inr ⟨_,rfl⟩
 | any y=>exact .inl rfl
theorem Ul:Bd ["self", "counts", "least", "k", "clause", "room"] ["self", "counts"] (Ar Iw):=⟨rfl,rfl,rfl,by decide +kernel,rfl,by decide +kernel,by decide +kernel⟩
theorem Ur {f:Addr} {fd:zCy} (F:Fun K "rest" "Cover.rest" Iw f fd) (T:Txt K mg) (L:Kl K mg Ab Ag Af Am At Ba Az As Ad Au Ak Ah Bg Aj Bb Ap) (Mroom:Pb P w K mg base 1 (Fam Ad Au Ak Ah) "room" ["self", "paid"] (Yk Ad Au Ak Ah)):FnOk P w K mg base Da 2 f fd ["self", "counts"] (Yq Ad Au Ak Ah Aj):=by
 have sc:=Ul;refine F.ok sc (fun vs H Q E h=>?_) (fun cdv A outer s H vs Q E hr h=>?_)
 ·obtain⟨_,_,_,_,_,_,rfl,_⟩:=h
  rfl
 obtain⟨p,cl,ct,xs,cs,ns,rfl,⟨dx,fs,hp,hlk,_⟩,hcl,C4,hct,ln,q⟩:=h;refine⟨_,(Ae (Bh (i:=2) sc.nd rfl (Or.inl rfl) Gv)
   (Ae (Cj PassesOwn.never rfl (Le rfl T.n_enumerate (Aa (Cs (pv 0) rfl) Ai)) (Ez (n:=2) rfl (Bm (Ay (i:=3) sc.nd rfl (Or.inl rfl)) (Bm (Ay (i:=4) sc.nd rfl (Or.inl rfl)) Di)))
    (Ae (Bh (i:=5) sc.nd rfl (Or.inl rfl) (Fp Mroom (hr.mono (by decide)) (pv 4) (Aa (Bf Bp (pv 1) (pv 3) (fun _ _=>rfl)) Ai)))
   (An (Bt (PW.pt (Jk (Bi X6 (pv 5) Gv (Bl _)) (Hg (PW.pt (Hf (Bi Tp (pv 2) Gv (Bl _)) (Gg (Bi Gx (pv 5) (Bf Bn (pv 2) Al (fun _ _=>rfl)) (Bl _))))))))
    (An (Bh (i:=2) sc.nd rfl (Or.inl rfl) (Cc (Aa (pv 5) (Aa (pv 3) Ai)))))
    Bk))))
   (An (Bc (pv 2))))),?_⟩
 have lx:=C4.len;have two:2<=sizeLine:=by rw[zCw]; decide
 refine⟨_,rfl,p,Aj,dx,fs,_,rfl,hp,L.cl_Cover,L.na_Cover_clauses,hlk,cl,rfl,⟨_,SqL.of hcl⟩,Np (K:=K) (a:=cl) (xs:=xs)
  (fun i σ H2=>(∃ v o3 o4 o5 o,σ=[some (.ref p),some (.ref ct),some v,o3,o4,o5]/\RV H2 v o/\Ej (Ck cs ns) 0 none=Ej ((Ck cs ns).drop i) i o)/\Same H H2) ⟨⟨.non,none,none,none,none,rfl,rfl,rfl⟩,fun _ _ z=>z⟩ (fun i σ H2 _ ⟨_,e⟩=>SqL.of (e _ _ hcl)) ?_ ?_⟩
 ·rintro i x σ H2 t hi ⟨⟨v,o3,o4,o5,o,rfl,rv,er⟩,s2⟩ nt
  obtain⟨pc,c,hc,rfl,⟨dc,hat⟩⟩:=C4.get hi;have s3:=Ao nt (.tup [.int i,.ref pc]);have s23:=s2.trans s3;have ic:i<cs.length:=(zAj.mp hc).1;have hcn:cs[i]'ic=c:=(zAj.mp hc).2;have hnn:ns.getD i 0=ns[i]'(by lia):=by rw[zAr,zAe (by lia)]; rfl
  have nth:(Ck cs ns)[i]?=some (IO (Sw c (ns.getD i 0))):=by
   unfold Ck;rw[List.getElem?_zipWith,hc,zAe (show i<ns.length by lia),<- hnn]
  rw[Xg nth] at er;have rv3:=rv.same s3;refine (vE rfl ⟨pc,_,dc,_,rfl,s23 _ _ hat,Yx Ad Au Ak Ah c,FU c,_,rfl,vE rfl (vI rfl rfl (SqL.of (s23 _ _ hct)) (U6 (by lia) (by lia)) ⟨pc,c,_,rfl,⟨dc,s23 _ _ hat⟩,rfl,?_⟩)⟩);have ei:((i:Int)).toNat=i:=Int.toNat_natCast i;rw[ei];generalize hR:Sw c (ns.getD i 0)=rm at er;have rmv:rm = .non\/∃ m:Int,rm = .int m:=by rw[<- hR]; exact EI c _
  rcases rmv with rfl | ⟨m,rfl⟩
  ·refine (vE rfl ⟨rfl,vE rfl (nF rfl (Dj ?_))⟩)
   exact⟨⟨v,_,_,_,o,rfl,rv3,er⟩,s23⟩
  ·refine (vE rfl ⟨rfl,vE rfl (nT (fun z=>nomatch z) ?_)⟩)
   have done:∀ (H4:Hp) (u:Addr) o5',Same H H4->H4 u=none->Ej (Ck cs ns) 0 none=Ej ((Ck cs ns).drop (i+1)) ((i:Int)+1) (some (m,(i:Int))) ->
     (∃ v o3 o4 o5 o,[some (.ref p),some (.ref ct),some (.ref u),some (.int i),some (.ref pc),o5']=[some (.ref p),some (.ref ct),some v,o3,o4,o5]/\RV (upd H4 u (.tup [.int m,.int i])) v o/\Ej (Ck cs ns) 0 none=Ej ((Ck cs ns).drop (i+1)) ((i+1:Nat):Int) o)/\Same H (upd H4 u (.tup [.int m,.int i])):=fun H4 u o5' s4 nu e=>by
    exact⟨⟨.ref u,_,_,_,some (m,i),rfl,⟨u,rfl,Ac⟩,by rw[e]; rfl⟩,s4.trans (Ao nu _)⟩
   cases o with
   | none=>
    have v0:v = .non:=rv;subst v0;refine (vE rfl ⟨rfl,vE rfl (dT rfl (Kb ?_))⟩);exact (vE rfl (vE rfl ⟨two,fun u nu=>done _ u _ s23 nu er⟩))
   | some mj=>
    obtain⟨n0,j0⟩:=mj;obtain⟨tv,rfl,htv⟩:=rv3;refine (vE rfl ⟨rfl,vE rfl (dF (fun z=>nomatch z) ?_)⟩);refine (vE rfl (vE rfl (vI rfl rfl (SqT.of htv) rfl (vF rfl rfl (vE rfl (Qo (fun c1=>?_) (fun c1=>?_)))))))
    ·have c1':m<n0:=of_decide_eq_true c1
     have er':Ej (Ck cs ns) 0 none=Ej ((Ck cs ns).drop (i+1)) ((i:Int)+1) (if m<n0 then some (m,(i:Int)) else some (n0,j0)):=er;rw[if_pos c1'] at er';exact (vE rfl (vE rfl ⟨two,fun u nu=>done _ u _ s23 nu er'⟩))
    ·have c1':¬ m<n0:=of_decide_eq_false (zBa.mpr c1)
     have er':Ej (Ck cs ns) 0 none=Ej ((Ck cs ns).drop (i+1)) ((i:Int)+1) (if m<n0 then some (m,(i:Int)) else some (n0,j0)):=er;rw[if_neg c1'] at er';exact⟨⟨.ref tv,_,_,_,some (n0,j0),rfl,⟨tv,rfl,htv⟩,by rw[er']; rfl⟩,s23⟩
 ·rintro σ H2 ⟨⟨v,o3,o4,o5,o,rfl,rv,er⟩,s2⟩
  have lr:(Ck cs ns).length=xs.length:=by unfold Ck; rw[List.length_zipWith]; lia
  rw[<- lr,zBB] at er;exact (vE rfl (q v H2 s2 (by rw[er]; exact rv)))
theorem LH {nx:St->Hp->Prop} {σ:St} {H:Hp} (σ':St) (e:σ=σ') (h:nx σ' H):nx σ H:=e▸h
def PL (CC CO CL CM C:Addr) (H:Hp) (p cl ct:Addr) (cs:List Cl) (ns:List Int):Prop:=CvAt C H p cl/\(∃ xs,H cl=some (.lst xs)/\Cls4 CC CO CL CM H xs cs)/\H ct=some (.lst (ns.map V.int))/\ns.length=cs.length/\cs.length<=8
def IU (m:Int) (l:List Int):Prop:=m∈l/\∀ k∈l,k<=m
def IM (m:Int) (l:List Int):Prop:=m∈l/\∀ k∈l,m<=k
def Ra (CC CO CL CM C:Addr):Sp:=fun vs H Q _=>∃ p cl ct cs ns,∃ k:Int,vs=[.ref p,.ref ct,.int k]/\PL CC CO CL CM C H p cl ct cs ns/\∀ r ys H',Same H H'->H r=none->H' r=some (.lst ys)->Sps H' ys (Bx k cs ns)->Q (.ref r) H'
def EH (CC CO CL CM C:Addr):Sp:=fun vs H Q _=>∃ p cl ct cs ns,∃ k:Int,vs=[.ref p,.ref ct,.int k]/\PL CC CO CL CM C H p cl ct cs ns/\∀ (t:Addr) (lo hi:Int) (H':Hp),Same H H'->H' t=some (.tup [.int lo,.int (if hi>lo then hi else lo)]) ->
 IU lo (0::(Bx k cs ns).map (·.1))->IM hi (k::(Bx k cs ns).map (·.2))->Q (.ref t) H'
def DG (CC CO CL CM C:Addr):Sp:=fun vs H Q _=>∃ p cl ct cs ns,∃ k:Int,vs=[.ref p,.ref ct,.int k]/\PL CC CO CL CM C H p cl ct cs ns/\∀ (r:Addr) (xs:List V) (ms:List Int) (H':Hp),Same H H'->H r=none->H' r=some (.lst xs)->ms.Pairwise (· < ·)->(∀ y,y∈ms↔NW (Bx k cs ns) k y)->ms.length<=20 ->
 Trs H' xs (CRP.foldP (Bx k cs ns) ms (ms.length-1))->Q (.ref r) H'
theorem To:Bd ["self", "counts", "cents"] ["self", "counts", "cents"] (Ar Hu):=⟨rfl,rfl,rfl,by decide +kernel,rfl,by decide +kernel,by decide +kernel⟩
theorem Ui {f:Addr} {fd:zCy} (F:Fun K "spans" "Cover.spans" Hu f fd) (T:Txt K mg) (L:Kl K mg Ab Ag Af Am At Ba Az As Ad Au Ak Ah Bg Aj Bb Ap) (Mspan:Pb P w K mg base 2 (Fam Ad Au Ak Ah) "span" ["self", "count", "cents"] (Ub Ad Au Ak Ah)):FnOk P w K mg base Da 3 f fd ["self", "counts", "cents"] (Ra Ad Au Ak Ah Aj):=by
 have sc:=To;refine F.ok sc (fun vs H Q E h=>?_) (fun cdv A outer s H vs Q E hr h=>?_)
 ·obtain⟨_,_,_,_,_,_,rfl,_⟩:=h
  rfl
 obtain⟨p,cl,ct,cs,ns,k,rfl,⟨⟨dx,fs,e1,fc,nm⟩,⟨xs,hcl,cc⟩,hct,ln,l8⟩,q⟩:=h;refine⟨_,(An (Bc (Cn (NC:=["k", "clause", "cents", "counts"]) (own:=["k", "clause"]) (cs:=["cents", "counts"]) (ix:=[2,1]) rfl (CompScope.of rfl) rfl ⟨⟨rfl,.inl rfl,rfl⟩,⟨⟨rfl,.inl rfl,rfl⟩,trivial⟩⟩ (Le rfl T.n_enumerate (Aa (Cs (pv 0) rfl) Ai)) (fun _ _ _=>(Ri (K:=K) (n:=2) rfl rfl (Bm (Ay (i:=0) (show (["k", "clause", "cents", "counts"]:List Str).Nodup from by decide +kernel) rfl (Or.inl rfl)) (Bm (Ay (i:=1) (show (["k", "clause", "cents", "counts"]:List Str).Nodup from by decide +kernel) rfl (Or.inl rfl)) Di)))) (fun _ _ _=>Cu) (fun _ _ _=>(Fp Mspan (hr.mono (by decide)) (pv 1) (Aa (Bf (Rq (K:=K) rfl) (pv 3) (pv 0) (fun _ _=>rfl)) (Aa (pv 2) Ai))))))),?_⟩;have lx:=cc.len;refine (vE rfl ⟨p,Aj,dx,fs,_,rfl,e1,L.cl_Cover,L.na_Cover_clauses,fc,cl,rfl,⟨_,SqL.of hcl⟩,fun b nb=>?_⟩);refine Ww (K:=K) (a:=cl) (xs:=xs) (fun i ys H2=>Sps H2 ys (Bx k (cs.take i) (ns.take i))/\H2 b=some (.lst ys)/\Same H H2) ⟨trivial,Ac,Ao nb _⟩
  (fun i ys H2 _ ⟨e,x1,x2⟩=>⟨x1,by rw[e.len,Oy (by rw[zAt,zAt,ln]),zAt]; lia,SqL.of (x2 _ _ hcl)⟩) (by rw[zCw]; lia) (fun i x ys H2 t hi ⟨e,x1,x2⟩ ht=>?_) (fun ys H2 ⟨e,x1,x2⟩=>?_)
 ·obtain⟨o,c,hc,rfl,ho⟩:=cc.get hi
  have il:i<cs.length:=(zAj.mp hc).1;have hn:ns[i]?=some (ns[i]'(by lia)):=zAe (by lia);have s3:=x2.trans (Ao ht (.tup [.int i,.ref o]));have ho3:=ho.same s3;obtain⟨od,ho4⟩:=id ho3;have ati:Of (ns.map V.int) (i:Int)=some (.int (ns[i]'(by lia))):=Ge (by rw[zAs,hn]; rfl);refine (vE rfl ⟨o,_,od,_,rfl,ho4,Yx _ _ _ _ c,GV c,_,rfl,vE rfl (vI rfl rfl (SqL.of (s3 _ _ hct)) ati (vE rfl ⟨o,c,_,k,rfl,ho3,rfl,fun u H4 s4 hu=>⟨s4 _ _ (Ao ht _ _ _ x1),rfl,?_,Ac,fun y ob z=>?_⟩⟩))⟩)
  ·rw[L5 hc hn]
   have h1:=s4 _ _ (Ao ht (.tup [.int i,.ref o]) _ _ x1);exact (((e.mono (Bq (Ao ht _))).mono (Bq s4)).snoc hu).mono (Dm h1 _)
  ·rw[Aw (Aq z nb)]
   exact s4 _ _ (s3 y ob z)
 rw[lx,zAw,<- ln,zAw] at e;exact q b ys H2 x2 nb x1 e
theorem Qx:Bd ["self", "counts", "cents", "spans", "lo", "hi"] ["self", "counts", "cents"] (Ar Gk):=⟨rfl,rfl,rfl,by decide +kernel,rfl,by decide +kernel,by decide +kernel⟩
theorem Qh {f:Addr} {fd:zCy} (F:Fun K "window" "Cover.window" Gk f fd) (T:Txt K mg) (L:Kl K mg Ab Ag Af Am At Ba Az As Ad Au Ak Ah Bg Aj Bb Ap) (Mspans:Hi P w K mg base 3 Aj "spans" ["self", "counts", "cents"] (Ra Ad Au Ak Ah Aj)):FnOk P w K mg base Da 4 f fd ["self", "counts", "cents"] (EH Ad Au Ak Ah Aj):=by
 have sc:=Qx;refine F.ok sc (fun vs H Q E h=>?_) (fun cdv A outer s H vs Q E hr h=>?_)
 ·obtain⟨_,_,_,_,_,_,rfl,_⟩:=h
  rfl
 obtain⟨p,cl,ct,cs,ns,k,rfl,CV,q⟩:=h;refine⟨_,(Ae (Bh (i:=3) sc.nd rfl (Or.inl rfl) (Du Mspans (hr.mono (by decide)) (pv 0) (Aa (pv 1) (Aa (pv 2) Ai))))
   (Ae (Bh (i:=4) sc.nd rfl (Or.inl rfl) (Bo (Y6 rfl) rfl T.n_max (show zCx _=some (.builtin "max") from rfl) (Aa (Be Hw (Ce (Aa Al Ai)) (Cn (NC:=["span"]) (own:=["span"]) (cs:=[]) (ix:=[]) rfl (CompScope.of rfl) rfl trivial (Bs (pv 3)) (fun _ _ _=>(Ay (i:=0) (show (["span"]:List Str).Nodup from by decide +kernel) rfl (Or.inl rfl))) (fun _ _ _=>Cu) (fun _ _ _=>(Bf (Dd (K:=K) rfl) (pv 0) Al (fun _ _=>rfl))))) Ai)))
   (Ae (Bh (i:=5) sc.nd rfl (Or.inl rfl) (Bo (X9 rfl) rfl T.n_min (show zCx _=some (.builtin "min") from rfl) (Aa (Be Hw (Ce (Aa (pv 2) Ai)) (Cn (NC:=["span"]) (own:=["span"]) (cs:=[]) (ix:=[]) rfl (CompScope.of rfl) rfl trivial (Bs (pv 3)) (fun _ _ _=>(Ay (i:=0) (show (["span"]:List Str).Nodup from by decide +kernel) rfl (Or.inl rfl))) (fun _ _ _=>Cu) (fun _ _ _=>(Bf (Dd (K:=K) rfl) (pv 0) Al (fun _ _=>rfl))))) Ai)))
   (An (Bc (Cc (Aa (pv 4) (Aa (Bo (Ig rfl) rfl T.n_max (show zCx _=some (.builtin "max") from rfl) (Aa (pv 4) (Aa (pv 5) Ai))) Ai)))))))),?_⟩
 have one:1<=sizeLine:=by rw[zCw]; decide
 have two:2<=sizeLine:=by rw[zCw]; decide
 obtain⟨⟨dx,fs,e1,fc,nm⟩,_,_,ln,l8⟩:=id CV;refine (vE rfl ⟨p,dx,fs,rfl,e1,nm.1,_,rfl,vE rfl ⟨p,cl,ct,cs,ns,k,rfl,CV,fun r ys H1 s1 nr hr1 ps=>?_⟩⟩);have lsp:(Bx k cs ns).length<=8:=by rw[Oy ln]; exact l8
 generalize Bx k cs ns=sp at ps q lsp;have ly:=ps.len;refine Dz [some (.ref p),some (.ref ct),some (.int k),some (.ref r),none,none] rfl ?_;refine⟨one,fun l1 n1=>?_⟩;have t1:=Ao n1 (.lst [V.int 0]);refine (vE rfl ⟨r,rfl,⟨_,SqL.of (t1 _ _ hr1)⟩,fun b nb=>?_⟩);have hl1:upd H1 l1 (.lst [V.int 0]) l1=some (.lst [V.int 0]):=Ac;generalize upd H1 l1 (.lst [V.int 0])=H2 at t1 hl1 nb;have hr2:=t1 _ _ hr1;have ps2:=ps.mono (Bq t1);refine Bz (K:=K) (a:=r) (xs:=ys) (fun i zs H3=>zs=((sp.take i).map (·.1)).map V.int/\H3 b=some (.lst zs)/\Same H2 H3) ⟨rfl,Ac,Ao nb _⟩
  (fun i zs H3 _ ⟨e,x1,x2⟩=>⟨x1,by rw[e,zAb,zAb,zAt]; lia,SqL.of (x2 _ _ hr2)⟩) (by rw[zCw]; lia) (fun i x zs H3 hi ⟨e,x1,x2⟩=>?_) (fun zs H3 ⟨e,x1,x2⟩=>?_)
 ·obtain⟨t,pp,hp,rfl,ht⟩:=ps2.get hi
  refine (vE rfl (vI rfl rfl (SqT.of (x2 _ _ ht)) rfl ⟨x1,rfl,?_,Ac,fun y o z=>?_⟩))
  ·rw[Bu hp,zAp,zAp,e]
   rfl
  ·rw[Aw (Aq z nb)]
   exact x2 y o z
 rw[ly,zAw] at e;subst e;refine⟨l1,b,_,_,rfl,rfl,x2 _ _ hl1,x1,by rw[zAb,zAb,zCw]; show 1+_<=_; lia,fun l2 n2=>?_⟩;have t3:=Ao n2 (.lst ([V.int 0]++(sp.map (·.1)).map V.int));refine⟨l2,0::sp.map (·.1),rfl,SqL.of Ac,by simp,fun lo hlo blo=>?_⟩;have S3:=t1.trans (x2.trans t3);generalize upd H3 l2 (.lst ([V.int 0]++(sp.map (·.1)).map V.int))=H4 at S3;have hr4:=S3 _ _ hr1;have ps4:=ps.mono (Bq S3);clear x1 x2 t3 t1 hl1 hr2 ps2 n2 nb n1;refine Dz [some (.ref p),some (.ref ct),some (.int k),some (.ref r),some (.int lo),none] rfl ?_;refine (vE rfl ⟨one,fun l1 n1=>?_⟩);have t1:=Ao n1 (.lst [V.int k]);refine (vE rfl ⟨r,rfl,⟨_,SqL.of (t1 _ _ hr4)⟩,fun b nb=>?_⟩);have hl1:upd H4 l1 (.lst [V.int k]) l1=some (.lst [V.int k]):=Ac;generalize upd H4 l1 (.lst [V.int k])=H5 at t1 hl1 nb;have hr5:=t1 _ _ hr4;have ps5:=ps4.mono (Bq t1);refine Bz (K:=K) (a:=r) (xs:=ys) (fun i zs H6=>zs=((sp.take i).map (·.2)).map V.int/\H6 b=some (.lst zs)/\Same H5 H6) ⟨rfl,Ac,Ao nb _⟩
  (fun i zs H6 _ ⟨e,x1,x2⟩=>⟨x1,by rw[e,zAb,zAb,zAt]; lia,SqL.of (x2 _ _ hr5)⟩) (by rw[zCw]; lia) (fun i x zs H6 hi ⟨e,x1,x2⟩=>?_) (fun zs H6 ⟨e,x1,x2⟩=>?_)
 ·obtain⟨t,pp,hp,rfl,ht⟩:=ps5.get hi
  refine (vE rfl (vI rfl rfl (SqT.of (x2 _ _ ht)) rfl ⟨x1,rfl,?_,Ac,fun y o z=>?_⟩))
  ·rw[Bu hp,zAp,zAp,e]
   rfl
  ·rw[Aw (Aq z nb)]
   exact x2 y o z
 rw[ly,zAw] at e;subst e;refine⟨l1,b,_,_,rfl,rfl,x2 _ _ hl1,x1,by rw[zAb,zAb,zCw]; show 1+_<=_; lia,fun l2 n2=>?_⟩;have t3:=Ao n2 (.lst ([V.int k]++(sp.map (·.2)).map V.int));refine⟨l2,k::sp.map (·.2),rfl,SqL.of Ac,by simp,fun hi hhi bhi=>?_⟩;have S6:=s1.trans (S3.trans (t1.trans (x2.trans t3)));generalize upd H6 l2 (.lst ([V.int k]++(sp.map (·.2)).map V.int))=H7 at S6;refine Dz [some (.ref p),some (.ref ct),some (.int k),some (.ref r),some (.int lo),some (.int hi)] rfl ?_;refine (vE rfl (vE rfl (vE rfl ⟨_,_,rfl,two,fun t nt=>?_⟩)));exact q t lo hi _ (S6.trans (Ao nt _)) Ac ⟨hlo,blo⟩ ⟨hhi,bhi⟩
theorem HX (xs:List V):Lg xs (some 1) none=xs.drop 1:=by
 unfold Lg;rw[HT.sIx_none,show (some (1:Int))=some ((1:Nat):Int) from rfl,HT.sIx_nat];cases xs with
 | nil=>rfl
 | cons x xs=>
  rw[show min 1 (x::xs).length=1 by rw[zAg]; lia,List.take_of_length_le];rw[zCa];exact zAl _
theorem Rw:Bd ["self", "counts", "cents", "spans", "bounds", "told", "lo", "hi", "k"] ["self", "counts", "cents"] (Ar Hx):=⟨rfl,rfl,rfl,by decide +kernel,rfl,by decide +kernel,by decide +kernel⟩
theorem Tw {f:Addr} {fd:zCy} (F:Fun K "parts" "Cover.parts" Hx f fd) (T:Txt K mg) (L:Kl K mg Ab Ag Af Am At Ba Az As Ad Au Ak Ah Bg Aj Bb Ap) (Mspans:Hi P w K mg base 3 Aj "spans" ["self", "counts", "cents"] (Ra Ad Au Ak Ah Aj)) (Cbounds_of:Cp P w K mg base 1 "bounds_of" ["spans", "cents"] ES)
  (Cfirst_without:Cp P w K mg base 1 "first_without" ["spans", "cent"] KJ):FnOk P w K mg base Da 4 f fd ["self", "counts", "cents"] (DG Ad Au Ak Ah Aj):=by
 have sc:=Rw;refine F.ok sc (fun vs H Q E h=>?_) (fun cdv A outer s H vs Q E hr h=>?_)
 ·obtain⟨_,_,_,_,_,_,rfl,_⟩:=h
  rfl
 obtain⟨p,cl,ct,cs,ns,k,rfl,CV,q⟩:=h;refine⟨_,(Ae (Bh (i:=3) sc.nd rfl (Or.inl rfl) (Du Mspans (hr.mono (by decide)) (pv 0) (Aa (pv 1) (Aa (pv 2) Ai))))
   (Ae (Bh (i:=4) sc.nd rfl (Or.inl rfl) (Ax Cbounds_of (hr.mono (by decide)) rfl (Aa (pv 3) (Aa (pv 2) Ai))))
   (Ae (Bh (i:=5) sc.nd rfl (Or.inl rfl) (Ce Ai))
   (Ae (Cj PassesOwn.never rfl (JL rfl T.n_zip (Aa (pv 4) (Aa (Ku Nm (pv 4) (Oc Al) No) Ai))) (Ez (n:=2) rfl (Bm (Ay (i:=6) sc.nd rfl (Or.inl rfl)) (Bm (Ay (i:=7) sc.nd rfl (Or.inl rfl)) Di)))
    (Ae (Bh (i:=8) sc.nd rfl (Or.inl rfl) (Ax Cfirst_without (hr.mono (by decide)) rfl (Aa (pv 3) (Aa (pv 6) Ai))))
   (Ae (Bt (PW.pt (Jk (FM (pv 5)) (Hg (Bi Cf (Bf Bn (Bf Bp (pv 5) (Wj Pc Al) (fun _ _=>rfl)) Al (fun _ _=>rfl)) (pv 8) (Bl _)))))
    (An (Bh (i:=6) sc.nd rfl (Or.inl rfl) (Bf Bn (KO PySem.F.plainAttrs_list PySem.F.slot_list_pop PySem.F.type_list_pop JD (pv 5)) Al (fun _ _=>rfl))))
    Bk)
   (An (Ct (Hd PySem.F.plainAttrs_list PySem.F.slot_list_append PySem.F.type_list_append Dv (pv 5) (Aa (Cc (Aa (pv 6) (Aa (pv 7) (Aa (pv 8) Ai)))) Ai)))))))
   (An (Bc (pv 5))))))),?_⟩
 have three:3<=sizeLine:=by rw[zCw]; decide
 obtain⟨⟨dx,fs,e1,fc,nm⟩,_,_,ln,l8⟩:=id CV;refine (vE rfl ⟨p,dx,fs,rfl,e1,nm.1,_,rfl,vE rfl ⟨p,cl,ct,cs,ns,k,rfl,CV,fun a ys H1 s1 na ha ps=>?_⟩⟩);have lsp:(Bx k cs ns).length<=8:=by rw[Oy ln]; exact l8
 generalize Bx k cs ns=sp at ps q lsp;have ly:=ps.len;refine (vE rfl (vE rfl ⟨a,ys,sp,k,rfl,ha,ps,lsp,fun l ms H2 s2 nl hl up mem l20=>?_⟩));refine⟨zAA _,fun r nr=>?_⟩;have ha2:=s2 _ _ ha;have ps2:=ps.mono (Bq s2);have S2:=s1.trans s2;refine Dz [some (.ref p),some (.ref ct),some (.int k),some (.ref a),some (.ref l),some (.ref r),none,none,none] rfl ?_;have t1:=Ao nr (.lst []);refine (vE rfl (vE rfl (vE rfl ⟨l,_,rfl,SqL.of (t1 _ _ hl),fun m nm'=>?_⟩)));rw[HX,<- List.map_drop];have t2:=Ao nm' (.lst ((ms.drop 1).map V.int));have lrm:r≠m:=Aq Ac nm';have hr3:upd (upd H2 r (.lst [])) m (.lst ((ms.drop 1).map V.int)) r=some (.lst []):=by rw[Aw lrm,Ac]
 have hm3:upd (upd H2 r (.lst [])) m (.lst ((ms.drop 1).map V.int)) m=some (.lst ((ms.drop 1).map V.int)):=Ac;have s3:=t1.trans t2;have nm2:H2 m=none:=t1.free nm';generalize upd (upd H2 r (.lst [])) m (.lst ((ms.drop 1).map V.int))=H3 at hr3 hm3 s3;have sm:∀ (H4:Hp) (o:HO),Same H2 H4->Same H2 (upd H4 r o):=fun H4 o s4 b u z=>by rw[Aw (Aq z nr)]; exact s4 b u z
 refine⟨l,m,rfl,⟨_,SqL.of (s3 _ _ hl)⟩,⟨_,SqL.of hm3⟩,HF (K:=K) (K':=K) (a:=l) (b:=m) (xs:=ms.map V.int) (ys:=(ms.drop 1).map V.int)
  (fun i σ H4=>(∃ o6 o7 o8 zs,σ=[some (.ref p),some (.ref ct),some (.int k),some (.ref a),some (.ref l),some (.ref r),o6,o7,o8]/\H4 r=some (.lst zs)/\Trs H4 zs (CRP.foldP sp ms i))/\H4 m=some (.lst ((ms.drop 1).map V.int))/\Same H2 H4)
  ⟨⟨none,none,none,[],rfl,hr3,trivial⟩,hm3,s3⟩ (fun i σ H4 _ ⟨_,e,s4⟩=>⟨SqL.of (s4 _ _ hl),SqL.of e⟩) ?_ ?_⟩
 ·rintro i x y σ H4 t hx hy ⟨⟨o6,o7,o8,zs,rfl,hr4,pk⟩,hm4,s4⟩ nt
  rw[zAs] at hx hy;obtain⟨lo,hlo,rfl⟩:=zAI.mp hx;obtain⟨hi,hhi,rfl⟩:=zAI.mp hy;rw[List.getElem?_drop] at hhi;have elo:ms.getD i 0=lo:=by rw[zAr,hlo]; rfl
  have ehi:ms.getD (i+1) 0=hi:=by rw[zAr,show i+1=1+i by lia,hhi]; rfl
  have nx:=CRP.foldP_succ sp ms i;rw[elo,ehi] at nx;have il:i<ms.length:=(zAj.mp hlo).1;have lz:=pk.len;have lf:=CRP.foldP_len sp ms i;have u1:=Ao nt (.tup [V.int lo,.int hi]);have hr5:=u1 _ _ hr4;have hm5:=u1 _ _ hm4;have pk5:=pk.mono (Bq u1);have s5:=s4.trans u1;generalize upd H4 t (.tup [V.int lo,.int hi])=H5 at u1 hr5 hm5 pk5 s5;refine LH [some (.ref p),some (.ref ct),some (.int k),some (.ref a),some (.ref l),some (.ref r),some (.int lo),some (.int hi),o8] rfl ?_;refine (vE rfl (vE rfl ⟨a,ys,sp,lo,rfl,s5 _ _ ha2,ps2.mono (Bq s5),by lia,fun H6 u2=>?_⟩));have hr6:=u2 _ _ hr5;have hm6:=u2 _ _ hm5;have pk6:=pk5.mono (Bq u2);have s6:=s5.trans u2;generalize CRP.fw sp lo=kk at nx;refine Dz [some (.ref p),some (.ref ct),some (.int k),some (.ref a),some (.ref l),some (.ref r),some (.int lo),some (.int hi),some (.int kk)] rfl ?_;have put:∀ (H7:Hp) (vs:List V) (ks:List Tr) (u:Addr) (lo':Int),H7 r=some (.lst vs)->Trs H7 vs ks->H7 u=none->H7 m=some (.lst ((ms.drop 1).map V.int))->Same H2 H7->CRP.foldP sp ms (i+1)=ks++[(lo',hi,kk)] ->
    (∃ o6 o7 o8 zs,[some (V.ref p),some (.ref ct),some (.int k),some (.ref a),some (.ref l),some (.ref r),some (.int lo'),some (.int hi),some (.int kk)]=[some (.ref p),some (.ref ct),some (.int k),some (.ref a),some (.ref l),some (.ref r),o6,o7,o8]/\upd (upd H7 u (.tup [.int lo',.int hi,.int kk])) r (.lst (vs++[.ref u])) r=some (.lst zs)/\Trs (upd (upd H7 u (.tup [.int lo',.int hi,.int kk])) r (.lst (vs++[.ref u]))) zs (CRP.foldP sp ms (i+1))) /\
     upd (upd H7 u (.tup [.int lo',.int hi,.int kk])) r (.lst (vs++[.ref u])) m=some (.lst ((ms.drop 1).map V.int))/\Same H2 (upd (upd H7 u (.tup [.int lo',.int hi,.int kk])) r (.lst (vs++[.ref u]))):=fun H7 vs ks u lo' e1 e2 e3 e4 e5 e6=>by
   have su:=Ao e3 (.tup [.int lo',.int hi,.int kk]);refine⟨⟨_,_,_,_,rfl,Ac,?_⟩,by rw[Aw lrm.symm]; exact su _ _ e4,sm _ _ (e5.trans su)⟩;rw[e6];exact ((e2.mono (Bq su)).snoc Ac).mono (Dm (su _ _ e1) _)
  generalize hks:CRP.foldP sp ms i=ks at pk6 nx lz lf;rcases List.eq_nil_or_concat ks with rfl | ⟨kr,⟨l0,h0,k0⟩,rfl⟩
  ·have zs0:zs=[]:=List.eq_nil_of_length_eq_zero lz
   subst zs0;refine (vE rfl ⟨_,.inl ⟨[],SqL.of hr6,rfl⟩,bF rfl (Dj ?_)⟩);refine (vE rfl ⟨.inl ⟨rfl,_,SqL.of hr6⟩,vE rfl (vE rfl (vE rfl ⟨three,fun u nu=>?_⟩))⟩);exact⟨r,_,_,rfl,rfl,Ao nu _ _ _ hr6,by rw[zCw]; decide,put H6 [] [] u lo hr6 trivial nu hm6 s6 nx⟩
  ·rw[List.concat_eq_append] at pk6 nx lz lf
   obtain⟨vs,tl,rfl,htl,pv⟩:=pk6.last;rw[CRP.stepP_snoc] at nx;rw[zAi] at lz;have lv:vs.length<=20:=by rw[zAi] at lf; have z:vs.length+1=_:=lz; rw[zAi] at z; lia
   refine (vE rfl ⟨_,.inl ⟨_,SqL.of hr6,rfl⟩,bT (by simp) ?_⟩);refine (vE rfl (vE rfl (vI rfl rfl (SqL.of hr6) (BO _ _) (vI rfl rfl (SqT.of htl) rfl (vE rfl ⟨rfl,vE rfl (Qo (fun c=>?_) (fun c=>?_))⟩)))))
   ·have c':k0=kk:=V.int.inj (of_decide_eq_true c)
    rw[if_pos c'] at nx;refine (vE rfl ⟨.inl ⟨rfl,_,SqL.of hr6⟩,r,_,.ref tl,rfl,rfl,hr6,by simp,?_⟩);rw[List.dropLast_concat];have t3:GX H6 (upd H6 r (.lst vs)):=Dm hr6 _;have htl7:=t3 _ _ htl;have pv7:=pv.mono t3;have hr7:upd H6 r (.lst vs) r=some (.lst vs):=Ac;have hm7:upd H6 r (.lst vs) m=some (.lst ((ms.drop 1).map V.int)):=by rw[Aw lrm.symm]; exact hm6
    have s7:=sm H6 (.lst vs) s6;generalize upd H6 r (.lst vs)=H7 at t3 htl7 pv7 hr7 hm7 s7;refine (vI rfl rfl (SqT.of htl7) rfl ?_);refine Dz [some (.ref p),some (.ref ct),some (.int k),some (.ref a),some (.ref l),some (.ref r),some (.int l0),some (.int hi),some (.int kk)] rfl ?_;refine (vE rfl ⟨.inl ⟨rfl,_,SqL.of hr7⟩,vE rfl (vE rfl (vE rfl ⟨three,fun u nu=>?_⟩))⟩);exact⟨r,_,_,rfl,rfl,Ao nu _ _ _ hr7,by rw[zCw]; lia,put H7 vs kr u l0 hr7 pv7 nu hm7 s7 nx⟩
   ·have c':¬ k0=kk:=fun z=>c (decide_eq_true (by rw[z]))
    rw[if_neg c'] at nx;refine (vE rfl ⟨.inl ⟨rfl,_,SqL.of hr6⟩,vE rfl (vE rfl (vE rfl ⟨three,fun u nu=>?_⟩))⟩);exact⟨r,_,_,rfl,rfl,Ao nu _ _ _ hr6,by rw[zAi,zCw]; show vs.length+1<_; lia,put H6 _ _ u lo hr6 pk6 nu hm6 s6 nx⟩
 ·rintro σ H4 ⟨⟨o6,o7,o8,zs,rfl,hr4,pk⟩,hm4,s4⟩
  have le:min (ms.map V.int).length ((ms.drop 1).map V.int).length=ms.length-1:=by rw[zAb,zAb,zCa]; lia
  rw[le] at pk;exact (vE rfl (q r zs ms H4 (S2.trans s4) (S2.free nr) hr4 up mem l20 pk))
end
abbrev Cv:=Addr×Str×Bool
def Uq (c:Cv):V:=.ref c.1
def CvsAt (C:Addr) (H:Hp) (cs:List Cv):Prop:=∀ c∈cs,∃ dx fs,H c.1=some (.ins C dx fs)/\fs.lookup ("name" : Str)=some (.str c.2.1)/\fs.lookup ("waits" : Str)=some (.bl c.2.2)
theorem CvsAt.same {C:Addr} {H H':Hp} {cs:List Cv} (h:CvsAt C H cs) (s:Same H H'):CvsAt C H' cs:=fun c hc=>by
 obtain⟨dx,fs,e,r⟩:=h c hc;exact⟨dx,fs,s _ _ e,r⟩
theorem CvsAt.get {C:Addr} {H:Hp} {cs:List Cv} {i:Nat} {x:V} (h:CvsAt C H cs) (e:(cs.map Uq)[i]?=some x):∃ c dx fs,cs[i]?=some c/\x = .ref c.1/\c∈cs/\H c.1=some (.ins C dx fs)/\fs.lookup ("name" : Str)=some (.str c.2.1)/\fs.lookup ("waits" : Str)=some (.bl c.2.2):=by
 rw[zAs] at e;obtain⟨c,hc,rfl⟩:=zAI.mp e;have m:=zAB hc;obtain⟨dx,fs,r⟩:=h c m;exact⟨c,dx,fs,hc,rfl,m,r⟩
theorem CvsAt.ne {C CB:Addr} {H:Hp} {cs:List Cv} {p dx:Addr} (h:CvsAt C H cs) (hp:H p=some (.ins CB dx [])):∀ c∈cs,c.1≠p:=fun c hc z=>by
 obtain⟨d2,fs,e,n,_⟩:=h c hc;rw[z,hp] at e;injection e with e;injection e with _ _ e;subst e;cases n
theorem CvsAt.kb {C CB:Addr} {H H':Hp} {cs:List Cv} {p dx:Addr} (h:CvsAt C H cs) (hp:H p=some (.ins CB dx [])) (k:KB p H H'):CvsAt C H' cs:=fun c hc=>by
 obtain⟨d2,fs,e,r⟩:=h c hc;exact⟨d2,fs,k _ _ e (h.ne hp c hc),r⟩
def JI (cs:List Cv):List Cv:=cs.filter (fun c => !c.2.2)++cs.filter (fun c=>c.2.2)
structure OX (CB:Addr) (H:Hp) (p cl ak:Addr) (cs:List Cv):Prop where
 ob:∃ dx fs,H p=some (.ins CB dx fs)/\fs.lookup ("covers" : Str)=some (.ref cl)/\fs.lookup ("asking" : Str)=some (.ref ak)/\fs.lookup ("named" : Str)=none
 hc:H cl=some (.lst (cs.map Uq))
 ha:H ak=some (.lst ((JI cs).map Uq))
def M6 (C CB:Addr):Sp:=fun vs H Q _=>∃ p dx a cs,vs=[.ref p,.ref a]/\H p=some (.ins CB dx [])/\H a=some (.lst (cs.map Uq))/\CvsAt C H cs/\cs.length<=8/\(cs.map (·.2.1)).Nodup /\
 ∀ cl ak H',KB p H H'->OX CB H' p cl ak cs->H cl=none->H ak=none->Q .non H'
theorem Kx {α:Type} {l:List α} {f:α->Bool} {i:Nat} {x:α} (h:l[i]?=some x):(l.take (i+1)).filter f=(l.take i).filter f++if f x=true then [x] else []:=by
 rw[Bu h,zBD];by_cases c:f x=true
 ·rw[if_pos c,zBn c,zBi]
 ·rw[if_neg c,zBo c,zBi]
section
variable {P:Program} {w:World} {K:zAa} {mg:Str->Option Value} {base:Heap} {Ab Ag Af Am At Ba Az As Ad Au Ak Ah Bg Aj Bb Ap:Addr}
theorem Oo:Bd ["self", "covers", "names", "firm", "waiting"] ["self", "covers"] (Ar Fw):=⟨rfl,rfl,rfl,by decide +kernel,rfl,by decide +kernel,by decide +kernel⟩
theorem Pe {f:Addr} {fd:zCy} (F:Fun K "__init__" "Book.__init__" Fw f fd) (T:Txt K mg) (L:Kl K mg Ab Ag Af Am At Ba Az As Ad Au Ak Ah Bg Aj Bb Ap):FnOk P w K mg base Da 1 f fd ["self", "covers"] (M6 Aj Bb):=by
 have sc:=Oo;refine F.ok sc (fun vs H Q E h=>?_) (fun cdv A outer s H vs Q E hr h=>?_)
 ·obtain⟨_,_,_,_,rfl,_⟩:=h
  rfl
 obtain⟨p,dx,a,cs,rfl,hp,ha,hcs,l8,nd,q⟩:=h;have l60:cs.length<60:=by lia
 refine⟨_,(Ae (Bt (Bi Ty (Bo Ci rfl T.n_len (show zCx _=some (.builtin "len") from rfl) (Aa (pv 1) Ai)) (Dg T.g_MOST_COVERS rfl) (Bl _))
    (An Fa)
    Bk)
   (Ae (Ik (NC:=["cover"]) (own:=["cover"]) (cs:=[]) (ix:=[]) (j:=2) sc.nd rfl rfl rfl (CompScope.of rfl) rfl trivial (Bs (pv 1)) (fun _ _ _=>(Ay (i:=0) (show (["cover"]:List Str).Nodup from by decide +kernel) rfl (Or.inl rfl))) (fun _ _ _=>Cu) (fun _ _ _=>(Lc (K:=K) (pv 0) rfl)))
   (Ae (Bt (Bi Gx (AT (pv 2) rfl rfl T.n_len rfl T.n_set) (Bo Ci rfl T.n_len (show zCx _=some (.builtin "len") from rfl) (Aa (pv 2) Ai)) (Bl _))
    (An Fa)
    Bk)
   (Ae (Dc (pv 0) (Ec Dt rfl T.n_list (show zCx _=some (.type "list") from rfl) (Aa (pv 1) Ai)) rfl)
   (Ae (Ik (NC:=["cover"]) (own:=["cover"]) (cs:=[]) (ix:=[]) (j:=3) sc.nd rfl rfl rfl (CompScope.of rfl) rfl trivial (Bs (pv 1)) (fun _ _ _=>(Ay (i:=0) (show (["cover"]:List Str).Nodup from by decide +kernel) rfl (Or.inl rfl))) (fun _ _ _=>(Gd (Df (Cr (Lc (K:=K) (pv 0) rfl))))) (fun _ _ _=>(pv 0)))
   (Ae (Ik (NC:=["cover"]) (own:=["cover"]) (cs:=[]) (ix:=[]) (j:=4) sc.nd rfl rfl rfl (CompScope.of rfl) rfl trivial (Bs (pv 1)) (fun _ _ _=>(Ay (i:=0) (show (["cover"]:List Str).Nodup from by decide +kernel) rfl (Or.inl rfl))) (fun _ _ _=>(Gd (Cr (Lc (K:=K) (pv 0) rfl)))) (fun _ _ _=>(pv 0)))
   (An (Dc (pv 0) (Be Hw (pv 3) (pv 4)) rfl)))))))),?_⟩
 have one:1<=sizeLine:=by rw[zCw]; decide
 have k0:KB p H H:=fun _ _ e _=>e;have lm:(cs.map Uq).length=cs.length:=zAb _;have nap:a≠p:=Eu ha hp (by intro z; cases z);refine (vE rfl ⟨a,_,rfl,.inl (SqL.of ha),vF rfl rfl (vE rfl ?_)⟩);refine dF (by rw[lm]; lia) ?_;refine (vE rfl ⟨a,rfl,⟨_,SqL.of ha⟩,fun n nn=>?_⟩);refine Bz (K:=K) (a:=a) (xs:=cs.map Uq) (fun i ys H2=>ys=((cs.take i).map (·.2.1)).map V.str/\H2 n=some (.lst ys)/\Same H H2) ⟨rfl,Ac,Ao nn _⟩
  (fun i ys H2 _ ⟨e,h1,s2⟩=>⟨h1,by rw[e,zAb,zAb,zAt]; lia,SqL.of (s2 _ _ ha)⟩) (by rw[zCw]; lia) (fun i x ys H2 hi ⟨e,h1,s2⟩=>?_) (fun ys H2 ⟨e,h1,s2⟩=>?_)
 ·obtain⟨c,dc,fc,ec,rfl,mc,hc,n1,w1⟩:=hcs.get hi
  refine (vE rfl ⟨c.1,Aj,dc,fc,_,rfl,s2 _ _ hc,L.cl_Cover,L.na_Cover_name,n1,h1,rfl,?_,Ac,fun b o z=>?_⟩)
  ·rw[Bu ec,zAp,zAp,e]
   rfl
  ·rw[Aw (Aq z nn)]
   exact s2 b o z
 rw[lm,zAw] at e;subst e;refine Dz [some (.ref p),some (.ref a),some (.ref n),none,none] rfl ?_;have hp2:=s2 _ _ hp;have ha2:=s2 _ _ ha;have k2:KB p H H2:=k0.same s2;have hcs2:=hcs.same s2;refine (vE rfl ⟨n,cs.map (·.2.1),rfl,SqL.of h1,by rw[zAb]; exact l60,fun m m1 m2=>?_⟩);refine (vE rfl ⟨n,_,rfl,.inl (SqL.of h1),vF rfl rfl (vE rfl ?_)⟩);have:=m1 nd;refine dF (by rw[zAb]; lia) ?_;clear m1 m2 this;refine (vE rfl ⟨a,_,rfl,.inl (SqL.of ha2),fun cl ncl=>?_⟩);have s3:=Ao ncl (.lst (cs.map Uq));have ncp:cl≠p:=(Aq hp2 ncl).symm;refine (vE rfl ⟨p,Bb,dx,[],rfl,s3 _ _ hp2,L.cl_Book,L.na_Book_covers,by decide,?_⟩);have k3:KB p H (upd (upd H2 cl (.lst (cs.map Uq))) p (.ins Bb dx (Bv "covers" (.ref cl) []))):=(k2.same s3).upd _;have e3:upd (upd H2 cl (.lst (cs.map Uq))) p (.ins Bb dx (Bv "covers" (.ref cl) [])) p=some (.ins Bb dx (Bv "covers" (.ref cl) [])):=Ac;have c3:upd (upd H2 cl (.lst (cs.map Uq))) p (.ins Bb dx (Bv "covers" (.ref cl) [])) cl=some (.lst (cs.map Uq)):=by rw[Aw ncp,Ac]
 have fcl:H cl=none:=k2.free ncp ncl;have hcs3:=hcs.kb hp k3;have ha3:=k3 _ _ ha nap;generalize upd (upd H2 cl (.lst (cs.map Uq))) p (.ins Bb dx (Bv "covers" (.ref cl) []))=H3 at k3 e3 c3 hcs3 ha3;refine (vE rfl ⟨a,rfl,⟨_,SqL.of ha3⟩,fun fi nfi=>?_⟩);refine Bz (K:=K) (a:=a) (xs:=cs.map Uq) (fun i ys H4=>ys=((cs.take i).filter (fun c => !c.2.2)).map Uq/\H4 fi=some (.lst ys)/\Same H3 H4) ⟨rfl,Ac,Ao nfi _⟩
  (fun i ys H4 _ ⟨e,h1,s4⟩=>⟨h1,by rw[e,zAb]; exact zAE (zAG _ _) (by rw[zAt]; lia),SqL.of (s4 _ _ ha3)⟩) (by rw[zCw]; lia) (fun i x ys H4 hi ⟨e,h1,s4⟩=>?_) (fun ys H4 ⟨e,hf4,s4⟩=>?_)
 ·obtain⟨c,dc,fc,ec,rfl,mc,hc,n1,w1⟩:=hcs3.get hi
  refine (vE rfl ⟨c.1,Aj,dc,fc,_,rfl,s4 _ _ hc,L.cl_Cover,L.na_Cover_waits,w1,_,rfl,?_⟩);have es:=Kx (f:=fun c:Cv => !c.2.2) ec;cases cw:c.2.2 with
  | true=>
   refine Dj ⟨rfl,?_,h1,s4⟩;rw[es,e,cw];simp
  | false=>
   refine Kb (vE rfl ⟨h1,rfl,?_,Ac,fun b o z=>?_⟩)
   ·rw[es,e,cw]
    simp [Uq]
   ·rw[Aw (Aq z nfi)]
    exact s4 b o z
 rw[lm,zAw] at e;subst e;refine Dz [some (.ref p),some (.ref a),some (.ref n),some (.ref fi),none] rfl ?_;have ha4:=s4 _ _ ha3;have hcs4:=hcs3.same s4;refine (vE rfl ⟨a,rfl,⟨_,SqL.of ha4⟩,fun wa nwa=>?_⟩);refine Bz (K:=K) (a:=a) (xs:=cs.map Uq) (fun i ys H5=>ys=((cs.take i).filter (fun c=>c.2.2)).map Uq/\H5 wa=some (.lst ys)/\Same H4 H5) ⟨rfl,Ac,Ao nwa _⟩
  (fun i ys H5 _ ⟨e,h1,s5⟩=>⟨h1,by rw[e,zAb]; exact zAE (zAG _ _) (by rw[zAt]; lia),SqL.of (s5 _ _ ha4)⟩) (by rw[zCw]; lia) (fun i x ys H5 hi ⟨e,h1,s5⟩=>?_) (fun ys H5 ⟨e,hw5,s5⟩=>?_)
 ·obtain⟨c,dc,fc,ec,rfl,mc,hc,n1,w1⟩:=hcs4.get hi
  refine (vE rfl ⟨c.1,Aj,dc,fc,_,rfl,s5 _ _ hc,L.cl_Cover,L.na_Cover_waits,w1,_,rfl,?_⟩);have es:=Kx (f:=fun c:Cv=>c.2.2) ec;cases cw:c.2.2 with
  | false=>
   refine Dj ⟨rfl,?_,h1,s5⟩;rw[es,e,cw];simp
  | true=>
   refine Kb (vE rfl ⟨h1,rfl,?_,Ac,fun b o z=>?_⟩)
   ·rw[es,e,cw]
    simp [Uq]
   ·rw[Aw (Aq z nwa)]
    exact s5 b o z
 rw[lm,zAw] at e;subst e;refine Dz [some (.ref p),some (.ref a),some (.ref n),some (.ref fi),some (.ref wa)] rfl ?_;have hf5:=s5 _ _ hf4;have e5:=s5 _ _ (s4 _ _ e3);have c5:=s5 _ _ (s4 _ _ c3);have k5:=(k3.same s4).same s5;refine (vE rfl (vE rfl ⟨fi,wa,_,_,rfl,rfl,hf5,hw5,?_,fun ak nak=>?_⟩))
 ·rw[zAb,zAb]
  have:=zAG (fun c:Cv => !c.2.2) cs;have:=zAG (fun c:Cv=>c.2.2) cs;rw[zCw]
  lia
 have nkp:ak≠p:=(Aq e5 nak).symm;have s6:=Ao nak (.lst ((cs.filter (fun c => !c.2.2)).map Uq++(cs.filter (fun c=>c.2.2)).map Uq));have g3:(Bv "covers" (.ref cl) []).length<=1:=Fo _ _ _;refine (vE rfl ⟨p,Bb,dx,_,rfl,s6 _ _ e5,L.cl_Book,L.na_Book_asking,zCn g3 (by decide),?_⟩);refine q cl ak _ ((k5.same s6).upd _) ⟨⟨dx,_,Ac,by rw[f1 (by decide +kernel),f0],f0,by rw[f1 (by decide +kernel),f1 (by decide +kernel)]; rfl⟩,?_,?_⟩ fcl (k5.free nkp nak)
 ·rw[Aw ncp]
  exact s6 _ _ c5
 ·rw[Aw nkp,Ac]
  unfold JI;rw[zAp]
end
abbrev Ii:=List (List Et×V)
def Iy (nm:Str) (k:Int) (y:Et):List Et:=[.inr nm,.inl k,y]
structure CtAt (CC:Addr) (H:Hp) (p kp:Addr) (kvs:Ii):Prop where
 ob:∃ dx fs,H p=some (.ins CC dx fs)/\fs.lookup ("kept" : Str)=some (.ref kp)/\fs.lookup ("have" : Str)=none/\fs.lookup ("add" : Str)=none
 hk:H kp=some (.dT kvs)
theorem CtAt.same {CC:Addr} {H H':Hp} {p kp:Addr} {kvs:Ii} (h:CtAt CC H p kp kvs) (s:Same H H'):CtAt CC H' p kp kvs:=by
 obtain⟨⟨dx,fs,e,r⟩,h1⟩:=h;exact⟨⟨dx,fs,s _ _ e,r⟩,s _ _ h1⟩
theorem CtAt.ne {CC:Addr} {H:Hp} {p kp:Addr} {kvs:Ii} (h:CtAt CC H p kp kvs):p≠kp:=by
 obtain⟨⟨dx,fs,e,r⟩,h1⟩:=h;exact Eu e h1 (by intro z; cases z)
theorem CtAt.put {CC:Addr} {H:Hp} {p kp:Addr} {kvs:Ii} (h:CtAt CC H p kp kvs) (kvs':Ii):CtAt CC (upd H kp (.dT kvs')) p kp kvs':=by
 have n:=h.ne;obtain⟨⟨dx,fs,e,r⟩,h1⟩:=h;exact⟨⟨dx,fs,by rw[Aw n]; exact e,r⟩,Ac⟩
def Lp (kvs:Ii) (nm:Str) (k:Int) (y:Et):V:=(El kvs (Iy nm k y)).getD (.int 0)
def DY (CC:Addr):Sp:=fun vs H Q _=>∃ p dx,vs=[.ref p]/\H p=some (.ins CC dx [])/\∀ kp H',KB p H H'->CtAt CC H' p kp []->H kp=none->Q .non H'
def Pk (CC:Addr):Sp:=fun vs H Q _=>∃ p kp kvs nm k y,vs=[.ref p,.str nm,.int k,kV y]/\CtAt CC H p kp kvs/\∀ H',Same H H'->Q (Lp kvs nm k y) H'
def FH (CC:Addr):Sp:=fun vs H Q _=>∃ p kp kvs nm k y,∃ c n:Int,vs=[.ref p,.str nm,.int k,kV y,.int c]/\CtAt CC H p kp kvs/\Lp kvs nm k y = .int n/\kvs.length<900/\∀ H',Same H H'->Q .non (upd H' kp (.dT (Fh kvs (Iy nm k y) (.int (n+c)))))
section
variable {P:Program} {w:World} {K:zAa} {mg:Str->Option Value} {base:Heap} {Ab Ag Af Am At Ba Az As Ad Au Ak Ah Bg Aj Bb Ap:Addr}
theorem Lx:Bd ["self"] ["self"] (Ar Fc):=⟨rfl,rfl,rfl,by decide +kernel,rfl,by decide +kernel,by decide +kernel⟩
theorem Mm {f:Addr} {fd:zCy} (F:Fun K "__init__" "Counts.__init__" Fc f fd) (T:Txt K mg) (L:Kl K mg Ab Ag Af Am At Ba Az As Ad Au Ak Ah Bg Aj Bb Ap):FnOk P w K mg base Da 1 f fd ["self"] (DY Ap):=by
 have sc:=Lx;refine F.ok sc (fun vs H Q E h=>?_) (fun cdv A outer s H vs Q E hr h=>?_)
 ·obtain⟨_,_,rfl,_⟩:=h
  rfl
 obtain⟨p,dx,rfl,hp,q⟩:=h;refine⟨_,(An (Dc (pv 0) Rl rfl)),?_⟩;intro kp nk;have s1:=Ao nk (.dT []);have np:kp≠p:=(Aq hp nk).symm;have k0:KB p H H:=fun _ _ e _=>e;refine (vE rfl ⟨p,Ap,dx,[],rfl,s1 _ _ hp,L.cl_Counts,L.na_Counts_kept,by decide,?_⟩);refine q kp _ ((k0.same s1).upd _) ⟨⟨dx,_,Ac,f0,by rw[f1 (by decide +kernel)]; rfl,by rw[f1 (by decide +kernel)]; rfl⟩,?_⟩ nk;rw[Aw np,Ac]
theorem Ss:Bd ["self", "name", "k", "key"] ["self", "name", "k", "key"] (Ar Hr):=⟨rfl,rfl,rfl,by decide +kernel,rfl,by decide +kernel,by decide +kernel⟩
theorem Ry {f:Addr} {fd:zCy} (F:Fun K "have" "Counts.have" Hr f fd) (T:Txt K mg) (L:Kl K mg Ab Ag Af Am At Ba Az As Ad Au Ak Ah Bg Aj Bb Ap):FnOk P w K mg base Da 1 f fd ["self", "name", "k", "key"] (Pk Ap):=by
 have sc:=Ss;refine F.ok sc (fun vs H Q E h=>?_) (fun cdv A outer s H vs Q E hr h=>?_)
 ·obtain⟨_,_,_,_,_,_,rfl,_⟩:=h
  rfl
 obtain⟨p,kp,kvs,nm,k,y,rfl,ct,q⟩:=h;have hu2:=F2 hr;refine⟨_,(An (Bc (Si hu2 (Cs (pv 0) rfl) (Cc (Aa (pv 1) (Aa (pv 2) (Aa (pv 3) Ai)))) Al ⟨rfl,rfl,rfl,rfl⟩))),?_⟩;obtain⟨⟨dx,fs,hp,b1,_,_⟩,hk⟩:=ct;refine (vE rfl ⟨p,Ap,dx,fs,_,rfl,hp,L.cl_Counts,L.na_Counts_kept,b1,kp,rfl,.inr ⟨kvs,.inl hk⟩,vE rfl (vE rfl (vE rfl ⟨By (by show 3<=1000; decide),fun t nt=>?_⟩))⟩);have s1:=Ao nt (.tup [V.str nm,.int k,kV y]);exact⟨_,DGet.t (k:=Iy nm k y) (s1 _ _ hk) Ac,q _ s1⟩
theorem Ve:Bd ["self", "name", "k", "key", "cents"] ["self", "name", "k", "key", "cents"] (Ar Jg):=⟨rfl,rfl,rfl,by decide +kernel,rfl,by decide +kernel,by decide +kernel⟩
theorem Um {f:Addr} {fd:zCy} (F:Fun K "add" "Counts.add" Jg f fd) (T:Txt K mg) (L:Kl K mg Ab Ag Af Am At Ba Az As Ad Au Ak Ah Bg Aj Bb Ap) (Mhave:Hi P w K mg base 1 Ap "have" ["self", "name", "k", "key"] (Pk Ap)):FnOk P w K mg base Da 2 f fd ["self", "name", "k", "key", "cents"] (FH Ap):=by
 have sc:=Ve;refine F.ok sc (fun vs H Q E h=>?_) (fun cdv A outer s H vs Q E hr h=>?_)
 ·obtain⟨_,_,_,_,_,_,_,_,rfl,_⟩:=h
  rfl
 obtain⟨p,kp,kvs,nm,k,y,c,n,rfl,ct,en,l9,q⟩:=h;have hu2:=F2 hr;refine⟨_,(An (Zv hu2 (Cs (pv 0) rfl) (Cc (Aa (pv 1) (Aa (pv 2) (Aa (pv 3) Ai)))) (Be Cq (Du Mhave (hr.mono (by decide)) (pv 0) (Aa (pv 1) (Aa (pv 2) (Aa (pv 3) Ai)))) (pv 4)) rfl)),?_⟩;obtain⟨⟨dx,fs,hp,b1,b2,b3⟩,hk⟩:=id ct;refine (vE rfl ⟨p,dx,fs,rfl,hp,b2,_,rfl,vE rfl (vE rfl ⟨p,kp,kvs,nm,k,y,rfl,ct,fun H1 s1=>?_⟩)⟩);rw[en];refine (vE rfl (vF rfl rfl ?_));refine (vE rfl ⟨p,Ap,dx,fs,_,rfl,s1 _ _ hp,L.cl_Counts,L.na_Counts_kept,b1,_,rfl,vE rfl (vE rfl ⟨By (by show 3<=1000; decide),fun t nt=>?_⟩)⟩);have s2:=Ao nt (.tup [V.str nm,.int k,kV y]);exact⟨kp,_,rfl,DPut.t (k:=Iy nm k y) (s2 _ _ (s1 _ _ hk)) Ac (by rw[zCw]; lia),q _ (s1.trans s2)⟩
end
def HA (i:Int):Nat:=97+(i%26).toNat
theorem Sl (i:Int):Ga (HA i):=by
 unfold Ga HA;have h0:0<=i%26:=Int.emod_nonneg _ (by decide);have h1:i%26<26:=Int.emod_lt_of_pos _ (by decide)
 lia
theorem FG (i:Int):Of (Str.ofString "abcdefghijklmnopqrstuvwxyz").cps.toList (i%26)=some (HA i):=by
 have e:(Str.ofString "abcdefghijklmnopqrstuvwxyz").cps.toList=(zAL 26).map (97 + ·):=by decide +kernel
 have h0:0<=i%26:=Int.emod_nonneg _ (by decide);have h1:i%26<26:=Int.emod_lt_of_pos _ (by decide);obtain⟨k,ek⟩:=Int.eq_ofNat_of_zero_le h0;rw[e];unfold HA;rw[ek];refine Ge ?_;rw[zAs,List.getElem?_range (by lia)];rfl
theorem W5:(Str.ofString "abcdefghijklmnopqrstuvwxyz").length<=sizeLine:=by
 have e:(Str.ofString "abcdefghijklmnopqrstuvwxyz").length=26:=by decide +kernel
 rw[e];exact By (by decide)
theorem Px {i:Nat} {v:Int} {nx:St->Hp->Prop} {σ:St} {H:Hp} (lo hi:Int) (h0:lo<=v/\v<=hi) (h:∀ x:Int,lo<=x->x<=hi->Er i (.int x) σ H nx):Er i (.int v) σ H nx:=h v h0.1 h0.2
theorem md {a b:Int} (h:0<b):0<=a%b/\a%b<=b-1:=⟨Int.emod_nonneg _ (by lia),by have:=Int.emod_lt_of_pos a h; lia⟩
def DJ:List Nat:=[115,101,108,102]
theorem W1:Str.ofString "self" = tx DJ:=by decide +kernel
theorem OS:Str.ofString "q" = tx [113]:=by decide +kernel
theorem IN {l m:List Nat} (h:tx l=tx m):l=m:=by
 have:=congrArg (fun z=>z.cps.toList) h
 simpa [tx] using this
structure FP (ns:List Str):Prop where
 hi:ns.length<=8
 nd:ns.Nodup
 ok:∀ z∈ns,Qa (.str z)=true/\z.length<=8/\z ≠ "self"
theorem CZ (g:Nat->List Nat) {k:Nat} (k8:k<=8) (nm:∀ i,i<k->Ru (g i)) (ns:∀ i,i<k->g i≠DJ) (inj:∀ i j,i<k->j<k->g i=g j->i=j):FP ((zAL k).map fun i=>tx (g i)):=by
 refine⟨by rw[zAb,zAN]; exact k8,?_,fun z hz=>?_⟩
 ·rw[zBt,zBG]
  refine List.Pairwise.imp_of_mem (R:=fun a b=>a≠b) (fun {i j} hi hj n e=>n ?_) (zBt.mp List.nodup_range);exact inj i j (zBu.mp hi) (zBu.mp hj) (IN e)
 ·obtain⟨i,hi,rfl⟩:=zAD.mp hz
  have hi':=zBu.mp hi;have n:=nm i hi';refine⟨decide_eq_true n,by rw[Dr]; exact n.1.2,fun h=>?_⟩;have h':tx (g i)=Str.ofString "self" := h;rw[W1] at h';exact ns i hi' (IN h')
def Q3 (c k:Nat):List Nat:=zAH (k+1) c
theorem EV (c m:Nat):(zAH m [c]).flatten=zAH m c:=by
 induction m with
 | zero=>rfl
 | succ m ih=>rw[zBr,zBw,ih,zBr]; rfl
theorem T9 {c k:Nat} (hc:Ga c) (k8:k<=8):FP ((zAL k).map fun i=>tx (Q3 c i)):=by
 refine CZ (Q3 c) k8 (fun i hi=>⟨by unfold Q3; rw[zBe]; lia,fun d hd=>?_⟩) (fun i hi z=>?_) (fun i j hi hj e=>?_)
 ·rw[zCo hd]
  exact hc
 ·unfold Q3 at z
  have h1:(115:Nat)∈zAH (i+1) c:=by rw[z]; decide
  have h2:(101:Nat)∈zAH (i+1) c:=by rw[z]; decide
  have e1:=zCo h1;have e2:=zCo h2
  lia
 ·have:=congrArg List.length e
  unfold Q3 at this;rw[zBe,zBe] at this
  lia
def LQ (m:Int) (a k j:Nat):Nat:=HA (m+(j:Int)*j+(k:Int)*(if j=a then 1 else 0))
def FR (m:Int) (a n k:Nat):List Nat:=(zAL n).map (LQ m a k)
theorem GO (m:Int) (a n k:Nat):(FR m a n k).length=n:=by unfold FR; rw[zAb,zAN]
theorem HC {m:Int} {a n k:Nat} (ha:a<n) (n8:n<=8) (k8:k<=8) (h:∀ i,i<k->FR m a n i≠DJ):FP ((zAL k).map fun i=>tx (FR m a n i)):=by
 refine CZ (FR m a n) k8 (fun i hi=>⟨by rw[GO]; lia,fun c hc=>?_⟩) h (fun i j hi hj e=>?_)
 ·unfold FR at hc
  obtain⟨j,_,rfl⟩:=zAD.mp hc;exact Sl _
 ·have e:=congrArg (fun l=>l[a]?) e
  unfold FR at e;simp only [zAs,List.getElem?_range ha,zCl,Option.some.injEq] at e;unfold LQ HA at e;simp only [if_true] at e;generalize m+(a:Int)*a=v at e;have a0:0<=(v+(i:Int)*1)%26:=Int.emod_nonneg _ (by decide);have b0:0<=(v+(j:Int)*1)%26:=Int.emod_nonneg _ (by decide)
  lia
theorem in_strs {z:Str} {l:List Str}:FQ (.str z) (l.map V.str)=true↔z∈l:=by
 unfold FQ;rw[List.any_map,List.any_eq_true];constructor
 ·rintro ⟨y,hy,e⟩
  have e':Wl (.str y) (.str z)=true:=e;have:y=z:=by simpa [Wl] using e'
  rw[<- this];exact hy
 ·intro h
  exact⟨z,h,by show Wl (.str z) (.str z)=true; simp [Wl]⟩
def Xy:Sp:=fun vs H Q _=>∃ c k:Int,vs=[.int c,.int k]/\0<=c/\0<=k/\k<=8/\∀ r ns H',Same H H'->H r=none->H' r=some (.lst (ns.map V.str))->FP ns->(ns.length:Int)=k->Q (.ref r) H'
section
seal L2.PS L2.PSs L2.PE L2.PA
variable {P:Program} {w:World} {K:zAa} {mg:Str->Option Value} {base:Heap}
theorem Uz:Bd ["_law_cell_here", "_law_many", "_law_letters", "_law_size", "_law_at", "_law_first", "_law_names_here", "_law_k", "_law_name", "_law_j"] ["_law_cell_here", "_law_many"] (Ar Jd):=⟨rfl,rfl,rfl,by decide +kernel,rfl,by decide +kernel,by decide +kernel⟩
theorem Va {f:Addr} {fd:zCy} (F:Fun K "_law_names" "_law_names" Jd f fd) (T:Txt K mg):FnOk P w K mg base Da 1 f fd ["_law_cell_here", "_law_many"] Xy:=by
 have sc:=Uz;refine F.ok sc (fun vs H Q E h=>?_) (fun cdv A outer s H vs Q E hr h=>?_)
 ·obtain⟨_,_,rfl,_⟩:=h
  rfl
 obtain⟨c,k,rfl,c0,k1,k8,q⟩:=h;refine⟨_,(Ae (Bh (i:=2) sc.nd rfl (Or.inr rfl) Br)
   (Ae (Bh (i:=3) sc.nd rfl (Or.inl rfl) (Be Cq Al (Be Cb (pv 0) Al)))
   (Ae (Bh (i:=4) sc.nd rfl (Or.inl rfl) (Be Cb (Be Ca (pv 0) Al) (pv 3)))
   (Ae (Bh (i:=5) sc.nd rfl (Or.inr rfl) (Be Ca (pv 0) Al))
   (Ae (Bt (Bi Cf (Be Cb (Be Ca (pv 0) Al) Al) Al (Bl _))
    (An (Bc (Cn (NC:=["_law_k", "_law_letters", "_law_first"]) (own:=["_law_k"]) (cs:=["_law_letters", "_law_first"]) (ix:=[2,5]) rfl (CompScope.of rfl) rfl ⟨⟨rfl,.inl rfl,rfl⟩,⟨⟨rfl,.inl rfl,rfl⟩,trivial⟩⟩ (Do rfl T.n_range (Aa (pv 1) Ai)) (fun _ _ _=>(Ay (i:=0) (show (["_law_k", "_law_letters", "_law_first"]:List Str).Nodup from by decide +kernel) rfl (Or.inl rfl))) (fun _ _ _=>Cu) (fun _ _ _=>(Be Uh (Bf CQ (pv 1) (Be Cb (pv 2) Al) (fun _ _=>rfl)) (Be Cq (pv 0) Al))))))
    Bk)
   (Ae (Bh (i:=6) sc.nd rfl (Or.inl rfl) (Ce Ai))
   (Ae (Cj PassesOwn.never rfl (Do rfl T.n_range (Aa (pv 1) Ai)) (Ay (i:=7) sc.nd rfl (Or.inl rfl))
    (Ae (Bh (i:=8) sc.nd rfl (Or.inl rfl) Br)
   (Ae (Cj PassesOwn.never rfl (Do rfl T.n_range (Aa (pv 3) Ai)) (Ay (i:=9) sc.nd rfl (Or.inl rfl))
    (An (Bh (i:=8) sc.nd rfl (Or.inl rfl) (Be Ds (pv 8) (Bf CQ (pv 2) (Be Cb (Be Cq (Be Cq (pv 5) (Be Fl (pv 9) (pv 9))) (Be Fl (pv 7) (Ec Xa rfl T.n_int (show zCx _=some (.type "int") from rfl) (Aa (Dq Cf (pv 9) (pv 4) (Bl _)) Ai)))) Al) (fun _ _=>rfl))))))
   (An (Ct (Hd PySem.F.plainAttrs_list PySem.F.slot_list_append PySem.F.type_list_append Dv (pv 6) (Aa (pv 8) Ai)))))))
   (Ae (Bt (Bi Oi Br (pv 6) rfl)
    (An (Bc (Cn (NC:=["_law_k"]) (own:=["_law_k"]) (cs:=[]) (ix:=[]) rfl (CompScope.of rfl) rfl trivial (Do rfl T.n_range (Aa (pv 1) Ai)) (fun _ _ _=>(Ay (i:=0) (show (["_law_k"]:List Str).Nodup from by decide +kernel) rfl (Or.inl rfl))) (fun _ _ _=>Cu) (fun _ _ _=>(Be Uh Br (Be Cq (pv 0) Al))))))
    Bk)
   (An (Bc (pv 6))))))))))),?_⟩
 have m0:0<=c%8:=Int.emod_nonneg _ (by decide);have m8:c%8<8:=Int.emod_lt_of_pos _ (by decide);refine (vE rfl (vF rfl rfl ⟨(by show (0:Int)<8; decide),_,_,rfl,rfl,?_⟩));refine Px 1 8 ⟨by lia,by lia⟩ fun sz z1 z8=>?_;obtain⟨n,rfl⟩:=Int.eq_ofNat_of_zero_le (show 0<=sz by lia);refine (vE rfl (vF rfl rfl ⟨⟨by decide,by decide⟩,_,rfl,vF rfl rfl ⟨(by show (0:Int)<(n:Int); lia),?_⟩⟩));refine Px 0 ((n:Int)-1) (md (by lia)) fun at' at0 at1=>?_;obtain⟨a,rfl⟩:=Int.eq_ofNat_of_zero_le at0;have ha:a<n:=by lia
 refine (vE rfl (vF rfl rfl ⟨⟨by decide,by decide⟩,?_⟩));refine Dz [some (.int c),some (.int k),some (.str "abcdefghijklmnopqrstuvwxyz"),some (.int n),some (.int a),some (.int (c/320)),none,none,none,none] rfl ?_;generalize c/320=m;refine (vE rfl (vF rfl rfl ⟨⟨by decide,by decide⟩,_,_,rfl,rfl,(by show (0:Int)<5; decide),rfl,vE rfl ?_⟩));by_cases c5:c/64%5=1
 ·-- one Ga,more and more often
  refine dT (congrArg V.int c5) (vE rfl (vE rfl ⟨by lia,by lia,fun r nr=>?_⟩));refine Lw (lo:=0) (n:=k.toNat) (fun i ys H2=>ys=((zAL i).map fun i=>tx (Q3 (HA m) i)).map V.str/\H2 r=some (.lst ys)/\Same H H2) ⟨rfl,Ac,Ao nr _⟩
   (fun i ys H2 _ ⟨e,h1,_⟩=>⟨h1,by rw[e,zAb,zAb,zAN]; exact zAl _⟩) (by rw[zCw]; lia) (fun i ys H2 hi ⟨e,h1,s1⟩=>?_) (fun ys H2 ⟨e,h1,s1⟩=>?_)
  ·refine (vE rfl (vE rfl (vF rfl rfl ⟨(by show (0:Int)<26; decide),_,_,_,rfl,rfl,W5,FG _,_,rfl,vF rfl rfl ⟨[HA m],_,rfl,rfl,by lia,by lia,(show 1<=1000 from by decide),h1,rfl,?_,Ac,fun x o z=>?_⟩⟩)))
   ·rw[e,EV,show (0+(i:Int)+1).toNat=i+1 by lia,zBO,zAp,zAp]
    rfl
   ·rw[Aw (Aq z nr)]
    exact s1 x o z
  subst e;exact q r _ H2 s1 nr h1 (T9 (Sl m) (by lia)) (by rw[zAb,zAN]; lia)
 refine dF (fun z=>c5 (V.int.inj z)) ?_;refine⟨zAA _,fun r nr=>?_⟩;have s1:=Ao nr (.lst []);refine (vE rfl (vE rfl ⟨by lia,by lia,?_⟩));refine Ep (lo:=0) (n:=k.toNat)
  (fun i σ H3=>(∃ o7 o8 o9:Option V,σ=[some (.int c),some (.int k),some (.str "abcdefghijklmnopqrstuvwxyz"),some (.int n),some (.int a),some (.int m),some (.ref r),o7,o8,o9])/\H3 r=some (.lst (((zAL i).map fun i=>tx (FR m a n i)).map V.str))/\Same H H3)
  ⟨⟨none,none,none,rfl⟩,Ac,s1⟩ ?_ ?_
 ·rintro i σ H3 hi ⟨⟨o7,o8,o9,rfl⟩,h3,s3⟩
  have i8:i<8:=by lia
  rw[show (0+(i:Int))=(i:Int) by lia];refine (vE rfl (vE rfl ⟨by lia,by lia,?_⟩));refine Ep (lo:=0) (n:=(n:Int).toNat) (fun j σ H4=>(∃ o9,σ=[some (.int c),some (.int k),some (.str "abcdefghijklmnopqrstuvwxyz"),some (.int n),some (.int a),some (.int m),some (.ref r),some (.int i),some (.str (tx ((zAL j).map (LQ m a i)))),o9])/\H4=H3) ⟨⟨o9,rfl⟩,rfl⟩ ?_ ?_
  ·rintro j σ H4 hj ⟨⟨o9',rfl⟩,rfl⟩
   have hj':j<n:=by lia
   rw[show (0+(j:Int))=(j:Int) by lia];refine (vE rfl (vE rfl (vE rfl (vE rfl (vE rfl (vF rfl rfl ⟨.inl ⟨by lia,by lia⟩,vF rfl rfl (vE rfl (vE rfl (vE rfl ⟨rfl,.inr (vE rfl (vF rfl rfl ⟨.inl ⟨by lia,by lia⟩,vF rfl rfl (vF rfl rfl ⟨(by show (0:Int)<26; decide),_,_,_,rfl,rfl,W5,FG _,_,_,rfl,rfl,?_,⟨some (.int j),?_⟩,rfl⟩)⟩))⟩)))⟩))))))
   ·rw[Dr,zAb,zAN,zCw]
    show j+1<=_
    lia
   ·have e1:(if decide (V.int (j:Int)=V.int (a:Int))=true then (1:Int) else 0)=if j=a then 1 else 0:=by
     by_cases z:j=a
     ·rw[if_pos z,if_pos (decide_eq_true (by rw[z]))]
     ·rw[if_neg z,if_neg (fun y=>z (by have:=V.int.inj (of_decide_eq_true y); lia))]
    have e2:tx ((zAL j).map (LQ m a i))++(⟨#[HA (m+(j:Int)*j+(i:Int)*(if decide (V.int (j:Int)=V.int (a:Int))=true then (1:Int) else 0))]⟩:Str)=tx ((zAL (j+1)).map (LQ m a i)):=by
     rw[e1,zBO,zAp];exact Il _ [_]
    exact congrArg (fun z=>[some (V.int c),some (V.int k),some (V.str "abcdefghijklmnopqrstuvwxyz"),some (V.int n),some (V.int a),some (V.int m),some (V.ref r),some (V.int i),some (V.str z),some (V.int j)]) e2
  ·rintro σ H4 ⟨⟨o9',rfl⟩,rfl⟩
   have el:(zAL (n:Int).toNat).map (LQ m a i)=FR m a n i:=by rw[Int.toNat_natCast]; rfl
   rw[el];refine (vE rfl ⟨.inl ⟨rfl,_,SqL.of h3⟩,vE rfl ⟨r,_,_,rfl,rfl,h3,?_,⟨⟨_,_,_,rfl⟩,?_,fun x o z=>?_⟩⟩⟩)
   ·rw[zAb,zAb,zAN,zCw]
    lia
   ·rw[Ac,zBO,zAp,zAp]
    rfl
   ·rw[Aw (Aq z nr)]
    exact s3 x o z
 ·rintro σ H3 ⟨⟨o7,o8,o9,rfl⟩,h3,s3⟩
  refine (vE rfl ⟨r,_,rfl,.inl (SqL.of h3),rfl,Y1 _,_,rfl,?_⟩);by_cases cs:(Str.ofString "self")∈(zAL k.toNat).map fun i=>tx (FR m a n i)
  ·refine bT (in_strs.mpr cs) (vE rfl (vE rfl ⟨by lia,by lia,fun r2 nr2=>?_⟩))
   refine Lw (lo:=0) (n:=k.toNat) (fun i ys H4=>ys=((zAL i).map fun i=>tx (Q3 113 i)).map V.str/\H4 r2=some (.lst ys)/\Same H3 H4) ⟨rfl,Ac,Ao nr2 _⟩
    (fun i ys H4 _ ⟨e,h1,_⟩=>⟨h1,by rw[e,zAb,zAb,zAN]; exact zAl _⟩) (by rw[zCw]; lia) (fun i ys H4 hi ⟨e,h1,s4⟩=>?_) (fun ys H4 ⟨e,h1,s4⟩=>?_)
   ·refine (vE rfl (vF rfl rfl ⟨[113],_,congrArg V.str OS,rfl,by lia,by lia,(show 1<=1000 from by decide),h1,rfl,?_,Ac,fun x o z=>?_⟩))
    ·rw[e,EV,show (0+(i:Int)+1).toNat=i+1 by lia,zBO,zAp,zAp]
     rfl
    ·rw[Aw (Aq z nr2)]
     exact s4 x o z
   subst e;exact q r2 _ H4 (s3.trans s4) (s3.free nr2) h1 (T9 (by unfold Ga; decide) (by lia)) (by rw[zAb,zAN]; lia)
  ·refine bF (zBa.mpr fun z=>cs (in_strs.mp z)) (vE rfl ?_)
   refine q r _ H3 s3 nr h3 (HC ha (by lia) (by lia) fun i hi e=>cs ?_) (by rw[zAb,zAN]; lia);refine zAD.mpr ⟨i,zBu.mpr hi,?_⟩;rw[e,<- W1]
end
def Jr:Sp:=fun vs H Q _=>∃ c:Int,vs=[.int c]/\∀ r:Int,0<=r->r<=2147483646->Q (.int r) H
section
variable {P:Program} {w:World} {K:zAa} {mg:Str->Option Value} {base:Heap}
theorem So:Bd ["_law_cell_here"] ["_law_cell_here"] (Ar Hj):=⟨rfl,rfl,rfl,by decide +kernel,rfl,by decide +kernel,by decide +kernel⟩
theorem Tg {f:Addr} {fd:zCy} (F:Fun K "_law_spread" "_law_spread" Hj f fd) (T:Txt K mg):FnOk P w K mg base Da 1 f fd ["_law_cell_here"] Jr:=by
 have sc:=So;refine F.ok sc (fun vs H Q E h=>?_) (fun cdv A outer s H vs Q E hr h=>?_)
 ·obtain⟨_,rfl,_⟩:=h
  rfl
 obtain⟨c,rfl,q⟩:=h;refine⟨_,(An (Bc (Be Cb (Be Fl (pv 0) Al) Al))),?_⟩;refine (vE rfl (vF rfl rfl ⟨.inr ⟨by decide,by decide⟩,vF rfl rfl ⟨(by show (0:Int)<2147483647; decide),?_⟩⟩));have b:=md (a:=c*48271) (b:=2147483647) (by decide);exact q _ b.1 (by have:=b.2; lia)
end
structure LF where
 n:Int
 d:Int
 ev:Str
 th:Str
 ca:Str
 ct:Int
def LF.vs (z:LF):List V:=[.int z.n,.int z.d,.str z.ev,.str z.th,.str z.ca,.int z.ct]
def LF.ls (z:LF):LS:=⟨z.d,z.th,z.ca,z.ct⟩
theorem CS {H:Hp} {l:Addr} {z:LF} (h:H l=some (.tup z.vs)):JS H l z.ls:=⟨z.ev,z.n,h⟩
structure Cvx where
 p:Addr
 nm:Str
 t:Gc
 cs:List Cl
 wt:Bool
def xV (x:Cvx):V:=.ref x.p
def CvxAt (κ:A8) (CC CO CL CM C:Addr) (H:Hp) (x:Cvx):Prop:=∃ dx fs cv cl xs,H x.p=some (.ins C dx fs)/\fs.lookup ("name" : Str)=some (.str x.nm)/\fs.lookup ("condition" : Str)=some cv/\fs.lookup ("clauses" : Str)=some (.ref cl)/\fs.lookup ("waits" : Str)=some (.bl x.wt)/\noM5 fs /\
 CdAt κ H cv x.t/\H cl=some (.lst xs)/\Cls4 CC CO CL CM H xs x.cs/\x.cs.length<=8
theorem CvxAt.same {κ:A8} {CC CO CL CM C:Addr} {H H':Hp} {x:Cvx} (h:CvxAt κ CC CO CL CM C H x) (s:Same H H'):CvxAt κ CC CO CL CM C H' x:=by
 obtain⟨dx,fs,cv,cl,xs,e,a1,a2,a3,a4,a5,a6,a7,a8,a9⟩:=h;exact⟨dx,fs,cv,cl,xs,s _ _ e,a1,a2,a3,a4,a5,CdAt.same s _ a6,s _ _ a7,a8.mono (Ib s),a9⟩
def Fr (y:Str) (z:LF):Et:=if y = "event" then .inr z.ev else if y = "thing" then .inr z.th else if y = "year" then .inl (z.d/365) else .inl z.n
theorem DK (y:Str) (z:LF):HR y z.n z.d z.ev z.th=kV (Fr y z):=by
 unfold HR Fr;by_cases c1:y = "event"
 ·rw[if_pos c1,if_pos c1]; rfl
 rw[if_neg c1,if_neg c1];by_cases c2:y = "thing"
 ·rw[if_pos c2,if_pos c2]; rfl
 rw[if_neg c2,if_neg c2];by_cases c3:y = "year"
 ·rw[if_pos c3,if_pos c3]; rfl
 rw[if_neg c3,if_neg c3]; rfl
def IntV (kvs:Ii):Prop:=∀ k v,El kvs k=some v->∃ n:Int,v = .int n
theorem IntV.have {kvs:Ii} (h:IntV kvs) (nm:Str) (k:Int) (y:Et):∃ n:Int,Lp kvs nm k y = .int n:=by
 unfold Lp;cases z:El kvs (Iy nm k y) with
 | none=>exact⟨0,rfl⟩
 | some v=>
  obtain⟨n,rfl⟩:=h _ _ z;exact⟨n,rfl⟩
def B9:V->Int
 | .int n=>n
 | _=>0
def Mi (kvs:Ii) (nm:Str) (z:LF) (cs:List Cl) (i:Nat):List Int:=(zAL i).map fun (j:Nat)=>B9 (Lp kvs nm (j:Int) (Fr ((cs[j]?).getD (.any "")).way z))
def numsOf (kvs:Ii) (z:LF) (x:Cvx):List Int:=Mi kvs x.nm z x.cs x.cs.length
theorem D7 (kvs:Ii) (z:LF) (x:Cvx):(numsOf kvs z x).length=x.cs.length:=by unfold numsOf Mi; rw[zAb,zAN]
def M7 (κ:A8) (CC CO CL CM C:Addr) (m:Nat):Sp:=fun vs H Q _=>∃ x l,∃ z:LF,vs=[.ref x.p,.ref l]/\CvxAt κ CC CO CL CM C H x/\Mv x.t<m/\H l=some (.tup z.vs)/\Q (.bl (hT x.t z.ls)) H
def N4 (κ:A8) (CC CO CL CM C CN:Addr):Sp:=fun vs H Q _=>∃ x cp kp kvs l z,vs=[.ref x.p,.ref cp,.ref l]/\CvxAt κ CC CO CL CM C H x/\CtAt CN H cp kp kvs/\IntV kvs/\H l=some (.tup (LF.vs z))/\∀ r H',Same H H'->H r=none->H' r=some (.lst ((numsOf kvs z x).map V.int))->Q (.ref r) H'
def AskAt (κ:A8) (CC CO CL CM C CB:Addr) (H:Hp) (b:Addr) (bs:List Cvx):Prop:=∃ dx fs ak,H b=some (.ins CB dx fs)/\fs.lookup ("asking" : Str)=some (.ref ak)/\H ak=some (.lst (bs.map xV))/\∀ x∈bs,CvxAt κ CC CO CL CM C H x
def Dy (z:LF) (bs:List Cvx):List Cvx:=bs.filter fun x=>hT x.t z.ls
def Rg (κ:A8) (CC CO CL CM C CB:Addr) (m:Nat):Sp:=fun vs H Q _=>∃ b l bs z,vs=[.ref b,.ref l]/\AskAt κ CC CO CL CM C CB H b bs/\(∀ x∈bs,Mv x.t<m)/\bs.length<=60/\H l=some (.tup (LF.vs z))/\∀ r H',Same H H'->H r=none->H' r=some (.lst ((Dy z bs).map xV))->Q (.ref r) H'
section
variable {P:Program} {w:World} {K:zAa} {mg:Str->Option Value} {base:Heap} {Ab Ag Af Am At Ba Az As Ad Au Ak Ah Bg Aj Bb Ap:Addr}
theorem Vi:Bd ["self", "loss"] ["self", "loss"] (Ar Iq):=⟨rfl,rfl,rfl,by decide +kernel,rfl,by decide +kernel,by decide +kernel⟩
theorem Vs {f:Addr} {fd:zCy} (F:Fun K "asks" "Cover.asks" Iq f fd) (T:Txt K mg) (L:Kl K mg Ab Ag Af Am At Ba Az As Ad Au Ak Ah Bg Aj Bb Ap) {m:Nat} (Mholds:Pb P w K mg base m (A8.Fam (A8.mk Ab Ag Af Am At Ba Az As)) "holds" ["self", "loss"] (Dx (A8.mk Ab Ag Af Am At Ba Az As) m)):FnOk P w K mg base Da (m+1) f fd ["self", "loss"] (M7 (A8.mk Ab Ag Af Am At Ba Az As) Ad Au Ak Ah Aj m):=by
 have sc:=Vi;refine F.ok sc (fun vs H Q E h=>?_) (fun cdv A outer s H vs Q E hr h=>?_)
 ·obtain⟨_,_,_,rfl,_⟩:=h
  rfl
 obtain⟨x,l,z,rfl,⟨dx,fs,cv,cl,xs,e,a1,a2,a3,a4,a5,a6,_⟩,hm,hl,q⟩:=h;refine⟨_,(An (Bc (Fp Mholds (hr.mono (by omega)) (Cs (pv 0) rfl) (Aa (pv 1) Ai)))),?_⟩;obtain⟨cp,dc,fc,rfl,hc,n1,_⟩:=a6.obj;exact (vE rfl ⟨x.p,Aj,dx,fs,_,rfl,e,L.cl_Cover,L.na_Cover_condition,a2,cp,_,dc,fc,rfl,hc,A8.fam _ x.t,n1,_,rfl,cp,x.t,l,z.ls,rfl,a6,rfl,hm,CS hl,q⟩)
theorem Ux:Bd ["cover", "counts", "loss"] ["cover", "counts", "loss"] (Ar Io):=⟨rfl,rfl,rfl,by decide +kernel,rfl,by decide +kernel,by decide +kernel⟩
theorem Vd {f:Addr} {fd:zCy} (F:Fun K "numbers_of" "numbers_of" Io f fd) (T:Txt K mg) (L:Kl K mg Ab Ag Af Am At Ba Az As Ad Au Ak Ah Bg Aj Bb Ap) (Mkey:Pb P w K mg base 2 (Fam Ad Au Ak Ah) "key" ["self", "loss"] (W0 Ad Au Ak Ah)) (Mhave:Hi P w K mg base 1 Ap "have" ["self", "name", "k", "key"] (Pk Ap)) :
  FnOk P w K mg base Da 3 f fd ["cover", "counts", "loss"] (N4 (A8.mk Ab Ag Af Am At Ba Az As) Ad Au Ak Ah Aj Ap):=by
 have sc:=Ux;refine F.ok sc (fun vs H Q E h=>?_) (fun cdv A outer s H vs Q E hr h=>?_)
 ·obtain⟨_,_,_,_,_,_,rfl,_⟩:=h
  rfl
 obtain⟨x,cp,kp,kvs,l,z,rfl,cx,ct,iv,hl,q⟩:=h;refine⟨_,(An (Bc (Cn (NC:=["k", "clause", "counts", "cover", "loss"]) (own:=["k", "clause"]) (cs:=["counts", "cover", "loss"]) (ix:=[1,0,2]) rfl (CompScope.of rfl) rfl ⟨⟨rfl,.inl rfl,rfl⟩,⟨⟨rfl,.inl rfl,rfl⟩,⟨⟨rfl,.inl rfl,rfl⟩,trivial⟩⟩⟩ (Le rfl T.n_enumerate (Aa (Cs (pv 0) rfl) Ai)) (fun _ _ _=>(Ri (K:=K) (n:=2) rfl rfl (Bm (Ay (i:=0) (show (["k", "clause", "counts", "cover", "loss"]:List Str).Nodup from by decide +kernel) rfl (Or.inl rfl)) (Bm (Ay (i:=1) (show (["k", "clause", "counts", "cover", "loss"]:List Str).Nodup from by decide +kernel) rfl (Or.inl rfl)) Di)))) (fun _ _ _=>Cu) (fun _ _ _=>(Du Mhave (hr.mono (by decide)) (pv 2) (Aa (Lc (K:=K) (pv 3) rfl) (Aa (pv 0) (Aa (Fp Mkey (hr.mono (by decide)) (pv 1) (Aa (pv 4) Ai)) Ai)))))))),?_⟩;obtain⟨dx,fs,cv,cl,xs,e,a1,a2,a3,a4,a5,a6,hcl,cc,l8⟩:=id cx;have lx:=cc.len;refine (vE rfl ⟨x.p,Aj,dx,fs,_,rfl,e,L.cl_Cover,L.na_Cover_clauses,a3,cl,rfl,⟨_,SqL.of hcl⟩,fun b nb=>?_⟩);refine Ww (K:=K) (a:=cl) (xs:=xs) (fun i ys H2=>ys=(Mi kvs x.nm z x.cs i).map V.int/\H2 b=some (.lst ys)/\Same H H2) ⟨rfl,Ac,Ao nb _⟩
  (fun i ys H2 _ ⟨e,x1,x2⟩=>⟨x1,by rw[e,zAb]; unfold Mi; rw[zAb,zAN]; exact zAl _,SqL.of (x2 _ _ hcl)⟩) (by rw[zCw]; lia) (fun i v ys H2 t hi ⟨e2,x1,x2⟩ ht=>?_) (fun ys H2 ⟨e2,x1,x2⟩=>?_)
 ·obtain⟨o,c,hc,rfl,ho⟩:=cc.get hi
  have s3:=x2.trans (Ao ht (.tup [.int i,.ref o]));have ho3:=ho.same s3;obtain⟨od,ho4⟩:=id ho3;have ct3:=ct.same s3;obtain⟨⟨dc,fc,hcp,b1,b2,b3⟩,_⟩:=id ct3;obtain⟨n,en⟩:=iv.have x.nm (i:Int) (Fr c.way z);refine (vE rfl ⟨cp,dc,fc,rfl,hcp,b2,_,rfl,x.p,Aj,dx,fs,_,rfl,s3 _ _ e,L.cl_Cover,L.na_Cover_name,a1,_,rfl,vE rfl ⟨o,_,od,_,rfl,ho4,Yx _ _ _ _ c,EW c,_,rfl,o,c,l,z.ev,z.th,z.ca,z.n,z.d,z.ct,rfl,ho3,rfl,s3 _ _ hl,cp,kp,kvs,x.nm,(i:Int),Fr c.way z,by rw[DK]; rfl,ct3,fun H4 s4=>?_⟩⟩);rw[en];refine⟨s4 _ _ (Ao ht _ _ _ x1),rfl,?_,Ac,fun y ob w=>?_⟩
  ·have em:Mi kvs x.nm z x.cs (i+1)=Mi kvs x.nm z x.cs i++[n]:=by
    unfold Mi;rw[zBO,zAp];simp [hc,en,B9]
   rw[em,zAp,e2];rfl
  ·rw[Aw (Aq w nb)]
   exact s4 _ _ (s3 y ob w)
 rw[lx] at e2;subst e2;exact q b H2 x2 nb x1
theorem D5:Bd ["book", "loss"] ["book", "loss"] (Ar Lv):=⟨rfl,rfl,rfl,by decide +kernel,rfl,by decide +kernel,by decide +kernel⟩
theorem A4 {f:Addr} {fd:zCy} (F:Fun K "asked_of" "asked_of" Lv f fd) (T:Txt K mg) (L:Kl K mg Ab Ag Af Am At Ba Az As Ad Au Ak Ah Bg Aj Bb Ap) (Masks:Hi P w K mg base 5 Aj "asks" ["self", "loss"] (M7 (A8.mk Ab Ag Af Am At Ba Az As) Ad Au Ak Ah Aj 4)) :
  FnOk P w K mg base Da 6 f fd ["book", "loss"] (Rg (A8.mk Ab Ag Af Am At Ba Az As) Ad Au Ak Ah Aj Bb 4):=by
 have sc:=D5;refine F.ok sc (fun vs H Q E h=>?_) (fun cdv A outer s H vs Q E hr h=>?_)
 ·obtain⟨_,_,_,_,rfl,_⟩:=h
  rfl
 obtain⟨b,l,bs,z,rfl,⟨dx,fs,ak,e,a1,hak,all⟩,hm,l60,hl,q⟩:=h;refine⟨_,(An (Bc (Cn (NC:=["cover", "loss"]) (own:=["cover"]) (cs:=["loss"]) (ix:=[1]) rfl (CompScope.of rfl) rfl ⟨⟨rfl,.inl rfl,rfl⟩,trivial⟩ (Bs (Cs (pv 0) rfl)) (fun _ _ _=>(Ay (i:=0) (show (["cover", "loss"]:List Str).Nodup from by decide +kernel) rfl (Or.inl rfl))) (fun _ _ _=>(Gd (Cr (Du Masks (hr.mono (by decide)) (pv 0) (Aa (pv 1) Ai))))) (fun _ _ _=>(pv 0))))),?_⟩;have lm:(bs.map xV).length=bs.length:=zAb _;refine (vE rfl ⟨b,Bb,dx,fs,_,rfl,e,L.cl_Book,L.na_Book_asking,a1,ak,rfl,⟨_,SqL.of hak⟩,fun r nr=>?_⟩);refine Bz (K:=K) (a:=ak) (xs:=bs.map xV) (fun i ys H2=>ys=((bs.take i).filter fun x=>hT x.t z.ls).map xV/\H2 r=some (.lst ys)/\Same H H2) ⟨rfl,Ac,Ao nr _⟩
  (fun i ys H2 _ ⟨e2,h1,s2⟩=>⟨h1,by rw[e2,zAb]; exact zAE (zAG _ _) (by rw[zAt]; lia),SqL.of (s2 _ _ hak)⟩) (by rw[zCw]; lia) (fun i v ys H2 hi ⟨e2,h1,s2⟩=>?_) (fun ys H2 ⟨e2,h1,s2⟩=>?_)
 ·rw[zAs] at hi
  obtain⟨x,hx,rfl⟩:=zAI.mp hi;have mx:=zAB hx;have cx:=(all x mx).same s2;obtain⟨d2,f2,_,_,_,e3,_,_,_,_,n5,_⟩:=id cx;refine (vE rfl ⟨x.p,d2,f2,rfl,e3,n5.1,_,rfl,x,l,z,rfl,cx,hm x mx,s2 _ _ hl,_,rfl,?_⟩);have es:(bs.take (i+1)).filter (fun x=>hT x.t z.ls)=(bs.take i).filter (fun x=>hT x.t z.ls)++if hT x.t z.ls=true then [x] else []:=by
   rw[Bu hx,zBD];by_cases c:hT x.t z.ls=true
   ·rw[if_pos c,zBn (by exact c),zBi]
   ·rw[if_neg c,zBo (by exact c),zBi]
  cases cw:hT x.t z.ls with
  | false=>
   refine Dj ⟨rfl,?_,h1,s2⟩;rw[es,e2,cw];simp
  | true=>
   refine Kb (vE rfl ⟨h1,rfl,?_,Ac,fun b o w=>?_⟩)
   ·rw[es,e2,cw]
    simp
   ·rw[Aw (Aq w nr)]
    exact s2 b o w
 rw[lm,zAw] at e2;subst e2;exact q r H2 s2 nr h1
def EU (k:Int) (cs:List Cl) (ns:List Int) (W:Int×Int):Prop:=∃ lo hi:Int,IU lo (0::(Bx k cs ns).map (·.1))/\IM hi (k::(Bx k cs ns).map (·.2))/\W=(lo,if hi>lo then hi else lo)
def Cm (cs:List Cl) (ns:List Int):Option (Int×Int):=Ej (Ck cs ns) 0 none
def P0 (κ:A8) (CC CO CL CM C:Addr):Sp:=fun vs H Q _=>∃ x ct u un ns,∃ k:Int,vs=[.ref x.p,.ref ct,.int k,.ref u]/\CvxAt κ CC CO CL CM C H x/\H ct=some (.lst (List.map V.int ns))/\ns.length=x.cs.length/\LP H u un/\un.length<=1000 /\
 ∀ r W H',Same H H'->H r=none->EU k x.cs ns W->LP H' r (CRT.payW (x.nm,W,(Cm x.cs ns).map (·.1)) un)->Q (.ref r) H'
theorem Zi:Bd ["cover", "numbers", "cents", "unpaid", "window", "rest", "most"] ["cover", "numbers", "cents", "unpaid"] (Ar Jt):=⟨rfl,rfl,rfl,by decide +kernel,rfl,by decide +kernel,by decide +kernel⟩
theorem Zd {f:Addr} {fd:zCy} (F:Fun K "paid_runs" "paid_runs" Jt f fd) (T:Txt K mg) (Mwindow:Hi P w K mg base 4 Aj "window" ["self", "counts", "cents"] (EH Ad Au Ak Ah Aj)) (Mrest:Hi P w K mg base 2 Aj "rest" ["self", "counts"] (Yq Ad Au Ak Ah Aj))
  (Ccut_within:Cp P w K mg base 1 "cut_within" ["runs", "lo", "hi"] U3) (Clowest_of:Cp P w K mg base 1 "lowest_of" ["runs", "n"] Sq):FnOk P w K mg base Da 5 f fd ["cover", "numbers", "cents", "unpaid"] (P0 (A8.mk Ab Ag Af Am At Ba Az As) Ad Au Ak Ah Aj):=by
 have sc:=Zi;refine F.ok sc (fun vs H Q E h=>?_) (fun cdv A outer s H vs Q E hr h=>?_)
 ·obtain⟨_,_,_,_,_,_,rfl,_⟩:=h
  rfl
 obtain⟨x,ct,u,un,ns,k,rfl,cx,hct,ln,lu,l9,q⟩:=h;refine⟨_,(Ae (Bh (i:=4) sc.nd rfl (Or.inl rfl) (Du Mwindow (hr.mono (by decide)) (pv 0) (Aa (pv 1) (Aa (pv 2) Ai))))
   (Ae (Bh (i:=5) sc.nd rfl (Or.inl rfl) (Du Mrest (hr.mono (by decide)) (pv 0) (Aa (pv 1) Ai)))
   (Ae (Bh (i:=6) sc.nd rfl (Or.inl rfl) (Ju (Bi Tp (pv 5) Gv (Bl _)) Gv (Bf Bn (pv 5) Al (fun _ _=>rfl))))
   (An (Bc (Ax Clowest_of (hr.mono (by decide)) rfl (Aa (Ax Ccut_within (hr.mono (by decide)) rfl (Aa (pv 3) (Aa (Bf Bn (pv 4) Al (fun _ _=>rfl)) (Aa (Bf Bn (pv 4) Al (fun _ _=>rfl)) Ai)))) (Aa (pv 6) Ai)))))))),?_⟩
 obtain⟨dx,fs,cv,cl,xs,e,a1,a2,a3,a4,n5,a6,hcl,cc,l8⟩:=id cx;have cva:CvAt Aj H x.p cl:=⟨dx,fs,e,a3,n5.2⟩;refine (vE rfl ⟨x.p,dx,fs,rfl,e,n5.2.2.1,_,rfl,vE rfl ⟨x.p,cl,ct,x.cs,ns,k,rfl,⟨cva,⟨xs,hcl,cc⟩,hct,ln,l8⟩,fun t lo hi H1 s1 ht mx mn=>?_⟩⟩);refine Dz [some (.ref x.p),some (.ref ct),some (.int k),some (.ref u),some (.ref t),none,none] rfl ?_;refine (vE rfl ⟨x.p,dx,fs,rfl,s1 _ _ e,n5.2.2.2.2,_,rfl,x.p,cl,ct,xs,x.cs,ns,rfl,cva.same s1,s1 _ _ hcl,cc.mono (Ib s1),s1 _ _ hct,ln,fun v H2 s2 rv=>?_⟩);refine Dz [some (.ref x.p),some (.ref ct),some (.int k),some (.ref u),some (.ref t),some v,none] rfl ?_;have ht2:=s2 _ _ ht;have S2:=s1.trans s2;have lu2:LP H2 u un:=LP.same S2 lu;have wa:EU k x.cs ns (lo,if hi>lo then hi else lo):=⟨lo,hi,mx,mn,rfl⟩;have lc:=CR.cutW_len un lo (if hi>lo then hi else lo);cases ro:Ej (Ck x.cs ns) 0 none with
 | none=>
  rw[ro] at rv;have rv':v = .non:=rv;subst rv';refine (vE rfl ⟨rfl,vE rfl (dT rfl ?_)⟩);refine Dz [some (.ref x.p),some (.ref ct),some (.int k),some (.ref u),some (.ref t),some .non,some .non] rfl ?_;refine (vE rfl (vE rfl (vI rfl rfl (SqT.of ht2) rfl (vE rfl (vI rfl rfl (SqT.of ht2) rfl ⟨u,un,lo,_,rfl,lu2,l9,fun r1 H3 s3 nr1 lp=>(vE rfl (.inr ⟨r1,_,rfl,lp,fun r H4 s4 nr lp4=>?_⟩))⟩)))));refine q r _ H4 (S2.trans (s3.trans s4)) (S2.free (s3.free nr)) wa ?_;unfold Cm;rw[ro];exact lp4
 | some nj=>
  obtain⟨n,j⟩:=nj;rw[ro] at rv;obtain⟨t2,rfl,ht3⟩:=rv;refine (vE rfl ⟨rfl,vE rfl (dF (fun y=>by cases y) (vE rfl (vI rfl rfl (SqT.of ht3) rfl ?_)))⟩);refine Dz [some (.ref x.p),some (.ref ct),some (.int k),some (.ref u),some (.ref t),some (.ref t2),some (.int n)] rfl ?_;refine (vE rfl (vE rfl (vI rfl rfl (SqT.of ht2) rfl (vE rfl (vI rfl rfl (SqT.of ht2) rfl ⟨u,un,lo,_,rfl,lu2,l9,fun r1 H3 s3 nr1 lp=>(vE rfl (.inl ⟨r1,_,n,rfl,lp,by omega,fun r H4 s4 nr lp4=>?_⟩))⟩)))));refine q r _ H4 (S2.trans (s3.trans s4)) (S2.free (s3.free nr)) wa ?_;unfold Cm;rw[ro];exact lp4
abbrev Rp:=CRT.Sx Str
def EC (s:Rp):List V:=[.int s.1,.int s.2.1,.str s.2.2.1,.int s.2.2.2]
def Sts (H:Hp):List V->List Rp->Prop
 | [],[]=>True
 | x::xs,p::ps=>(∃ t,x = .ref t/\H t=some (.tup (EC p)))/\Sts H xs ps
 | _,_=>False
theorem Sts.len {H:Hp}:∀ {xs:List V} {ps:List Rp},Sts H xs ps->xs.length=ps.length
 | [],[],_=>rfl
 | [],_::_,h=>h.elim
 | _::_,[],h=>h.elim
 | x::xs,p::ps,h=>by rw[zAg,zAg,Sts.len h.2]
theorem Sts.mono {H H':Hp} (s:GX H H'):∀ {xs:List V} {ps:List Rp},Sts H xs ps->Sts H' xs ps
 | [],[],_=>trivial
 | [],_::_,h=>h.elim
 | _::_,[],h=>h.elim
 | x::xs,p::ps,⟨⟨t,e,h⟩,r⟩=>⟨⟨t,e,s _ _ h⟩,Sts.mono s r⟩
theorem Sts.app {H:Hp}:∀ {xs:List V} {ps:List Rp} {ys:List V} {qs:List Rp},Sts H xs ps->Sts H ys qs->Sts H (xs++ys) (ps++qs)
 | [],[],_,_,_,h=>h
 | [],_::_,_,_,r,_=>r.elim
 | _::_,[],_,_,r,_=>r.elim
 | x::xs,p::ps,_,_,⟨z,r⟩,h=>⟨z,Sts.app r h⟩
theorem Sts.one {H:Hp} {t:Addr} {p:Rp} (h:H t=some (.tup (EC p))):Sts H [.ref t] [p]:=⟨⟨t,rfl,h⟩,trivial⟩
theorem Sts.get {H:Hp}:∀ {xs:List V} {ps:List Rp} {i:Nat} {x:V},Sts H xs ps->xs[i]?=some x->∃ t p,ps[i]?=some p/\x = .ref t/\H t=some (.tup (EC p))
 | [],[],_,_,_,e=>by simp at e
 | [],_::_,_,_,h,_=>h.elim
 | _::_,[],_,_,h,_=>h.elim
 | x::xs,p::ps,0,y,⟨⟨t,e,h⟩,r⟩,q=>by
  simp at q;subst q;exact⟨t,p,rfl,e,h⟩
 | x::xs,p::ps,i+1,y,⟨_,r⟩,q=>by
  obtain⟨t,p',h1,h2⟩:=Sts.get (i:=i) r (by simpa using q);exact⟨t,p',by simpa using h1,h2⟩
theorem B6 {nm:Str} {k:Int} {ps:List CR.Rn} {i:Nat} {p:CR.Rn} (h:ps[i]?=some p):CRT.tag nm k (ps.take (i+1))=CRT.tag nm k (ps.take i)++[(p.1,p.2,nm,k)]:=by
 unfold CRT.tag;rw[Bu h,zAp];rfl
theorem Yb {b n k:Int} (k0:0<=k):0<=P3 b n k/\P3 b n k<=k:=by
 unfold P3 CR.minI CR.maxI
 repeat' split
 all_goals lia
theorem GW {k:Int} (k0:0<=k) (c:Cl) (n:Int):(0<=NF c n k/\NF c n k<=k)/\0<=MC c n k/\MC c n k<=k:=by
 cases c with
 | own y d=>exact⟨Yb k0,k0,Int.le_refl _⟩
 | lay y a b=>exact⟨Yb k0,Yb k0⟩
 | lim y m=>exact⟨⟨Int.le_refl _,k0⟩,k0,Int.le_refl _⟩
 | any y=>exact⟨⟨Int.le_refl _,k0⟩,k0,Int.le_refl _⟩
theorem G3 {k:Int} (k0:0<=k):∀ (cs:List Cl) (ns:List Int),∀ p∈Bx k cs ns,(0<=p.1/\p.1<=k)/\0<=p.2/\p.2<=k
 | [],_,p,h=>by unfold Bx at h; simp at h
 | _::_,[],p,h=>by unfold Bx at h; simp at h
 | c::cs,n::ns,p,h=>by
  unfold Bx at h;rw[zCr] at h;rcases zAn.mp h with z | z
  ·rw[z]; exact GW k0 c n
  ·exact G3 k0 cs ns p z
theorem DF {k:Int} (k0:0<=k) {sp:List (Int×Int)} (bd:∀ p∈sp,(0<=p.1/\p.1<=k)/\0<=p.2/\p.2<=k) {ms:List Int} (up:ms.Pairwise (· < ·)) (mem:∀ y,y∈ms↔NW sp k y):CRP.Ch (CRP.fw sp) 0 none (CRP.foldP sp ms (ms.length-1)) k:=by
 have at':∀ y∈ms,∃ j,j<ms.length/\ms.getD j 0=y:=fun y hy=>by
  obtain⟨j,hj,e⟩:=zAX hy;exact⟨j,hj,by rw[zAr,zAe hj]; exact e⟩
 have inn:∀ j,j<ms.length->0<=ms.getD j 0/\ms.getD j 0<=k:=fun j hj=>by
  have m:ms.getD j 0∈ms:=by
   rw[zAr,zAe hj];exact zBb hj
  rcases (mem _).mp m with z | z | ⟨p,hp,z | z⟩
  ·rw[z]; exact⟨Int.le_refl _,k0⟩
  ·rw[z]; exact⟨k0,Int.le_refl _⟩
  ·rw[z]; exact (bd p hp).1
  ·rw[z]; exact (bd p hp).2
 obtain⟨j0,h0,e0⟩:=at' 0 ((mem 0).mpr (.inl rfl));obtain⟨jk,hk,ek⟩:=at' k ((mem k).mpr (.inr (.inl rfl)));have z0:ms.getD 0 0=0:=by
  rcases Nat.eq_zero_or_pos j0 with z | z
  ·rw[z] at e0; exact e0
  ·have:=CRP.get_lt up z h0
   have:=inn 0 (by lia)
   lia
 have zk:ms.getD (ms.length-1) 0=k:=by
  by_cases z:jk=ms.length-1
  ·rw[<- z]; exact ek
  ·have:=CRP.get_lt up (show jk<ms.length-1 by lia) (by lia)
   have:=inn (ms.length-1) (by lia)
   lia
 have c:=CRP.fold_ch up (sp:=sp) (fun p hp=>⟨(mem _).mpr (.inr (.inr ⟨p,hp,.inl rfl⟩)),(mem _).mpr (.inr (.inr ⟨p,hp,.inr rfl⟩))⟩) (ms.length-1) (by lia) z0;rw[zk] at c;exact c
def G8 (ro:Option (Int×Int)) (k:Int):Int:=match ro with
 | none=>k
 | some (_,j)=>if k = -1 then j else k
theorem L9 {nm:Str} {g:Int->Int} {un:List CR.Rn} {ps:List CRP.Tr3} {i:Nat} {p:CRP.Tr3} (h:ps[i]?=some p):CRT.borneS nm g (ps.take (i+1)) un=CRT.borneS nm g (ps.take i) un++CRT.tag nm (g p.2.2) (CR.cutW un p.1 p.2.1):=by
 unfold CRT.borneS;rw[Bu h,zAp,List.flatten_append];simp
theorem EG {te:TE} {i:Nat} {ts:TS} {D:Qy} {σ:St} {H:Hp} (v:V) (h:∀ Q':VK,Q' v H->te σ H Q') (k:ts D (σ.set i (some v)) H):LT (IA te (Er i)) ts D σ H:=h _ k
def Ze (κ:A8) (CC CO CL CM C:Addr):Sp:=fun vs H Q _=>∃ x ct u un ns,∃ k:Int,vs=[.ref x.p,.ref ct,.int k,.ref u]/\CvxAt κ CC CO CL CM C H x/\H ct=some (.lst (List.map V.int ns))/\ns.length=x.cs.length/\LP H u un/\un.length<=60/\0<=k /\
 ∀ r ys parts H',Same H H'->H r=none->H' r=some (.lst ys)->CRP.Ch (CRP.fw (Bx k x.cs ns)) 0 none parts k->parts.length<=20->Sts H' ys (CRT.borneS x.nm (G8 (Cm x.cs ns)) parts un)->ys.length<=1200->Q (.ref r) H'
theorem Qt:Bd ["cover", "numbers", "cents", "unpaid", "rest", "strips", "lo", "hi", "k", "clause"] ["cover", "numbers", "cents", "unpaid"] (Ar Gn):=⟨rfl,rfl,rfl,by decide +kernel,rfl,by decide +kernel,by decide +kernel⟩
theorem Qs {f:Addr} {fd:zCy} (F:Fun K "borne_strips" "borne_strips" Gn f fd) (T:Txt K mg) (L:Kl K mg Ab Ag Af Am At Ba Az As Ad Au Ak Ah Bg Aj Bb Ap) (Mparts:Hi P w K mg base 4 Aj "parts" ["self", "counts", "cents"] (DG Ad Au Ak Ah Aj)) (Mrest:Hi P w K mg base 2 Aj "rest" ["self", "counts"] (Yq Ad Au Ak Ah Aj))
  (Ccut_within:Cp P w K mg base 1 "cut_within" ["runs", "lo", "hi"] U3):FnOk P w K mg base Da 5 f fd ["cover", "numbers", "cents", "unpaid"] (Ze (A8.mk Ab Ag Af Am At Ba Az As) Ad Au Ak Ah Aj):=by
 have sc:=Qt;refine F.ok sc (fun vs H Q E h=>?_) (fun cdv A outer s H vs Q E hr h=>?_)
 ·obtain⟨_,_,_,_,_,_,rfl,_⟩:=h
  rfl
 obtain⟨x,ct,u,un,ns,k,rfl,cx,hct,ln,lu,l60,k0,q⟩:=h;refine⟨_,(Ae (Bh (i:=4) sc.nd rfl (Or.inl rfl) (Du Mrest (hr.mono (by decide)) (pv 0) (Aa (pv 1) Ai)))
   (Ae (Bh (i:=5) sc.nd rfl (Or.inl rfl) (Ce Ai))
   (Ae (Cj PassesOwn.never rfl (Bs (Du Mparts (hr.mono (by decide)) (pv 0) (Aa (pv 1) (Aa (pv 2) Ai)))) (Ez (n:=3) rfl (Bm (Ay (i:=6) sc.nd rfl (Or.inl rfl)) (Bm (Ay (i:=7) sc.nd rfl (Or.inl rfl)) (Bm (Ay (i:=8) sc.nd rfl (Or.inl rfl)) Di))))
    (Ae (Bh (i:=9) sc.nd rfl (Or.inr rfl) (Ju (PW.pt (Jk (Bi Cf (pv 8) (Wj Pc Al) (Bl _)) (Hg (Bi X6 (pv 4) Gv (Bl _))))) (Bf Bn (pv 4) Al (fun _ _=>rfl)) (pv 8)))
   (An (Ct (Hd PySem.F.plainAttrs_list PySem.F.slot_list_extend PySem.F.type_list_extend Ld (pv 5) (Aa (Cn (NC:=["run", "clause", "cover"]) (own:=["run"]) (cs:=["clause", "cover"]) (ix:=[9,0]) rfl (CompScope.of rfl) rfl ⟨⟨rfl,.inl rfl,rfl⟩,⟨⟨rfl,.inl rfl,rfl⟩,trivial⟩⟩ (Bs (Ax Ccut_within (hr.mono (by decide)) rfl (Aa (pv 3) (Aa (pv 6) (Aa (pv 7) Ai))))) (fun _ _ _=>(Ay (i:=0) (show (["run", "clause", "cover"]:List Str).Nodup from by decide +kernel) rfl (Or.inl rfl))) (fun _ _ _=>Cu) (fun _ _ _=>(Cc (Aa (Bf (Dd (K:=K) rfl) (pv 0) Al (fun _ _=>rfl)) (Aa (Bf (Dd (K:=K) rfl) (pv 0) Al (fun _ _=>rfl)) (Aa (Lc (K:=K) (pv 2) rfl) (Aa (pv 1) Ai))))))) Ai))))))
   (An (Bc (pv 5)))))),?_⟩
 obtain⟨dx,fs,cv,cl,xs,e,a1,a2,a3,a4,n5,a6,hcl,cc,l8⟩:=id cx;have cva:CvAt Aj H x.p cl:=⟨dx,fs,e,a3,n5.2⟩;refine (vE rfl ⟨x.p,dx,fs,rfl,e,n5.2.2.2.2,_,rfl,x.p,cl,ct,xs,x.cs,ns,rfl,cva,hcl,cc,hct,ln,fun v H1 s1 rv=>?_⟩);refine Dz [some (.ref x.p),some (.ref ct),some (.int k),some (.ref u),some v,none,none,none,none,none] rfl ?_;refine⟨zAA _,fun st nst=>?_⟩;have s2:=s1.trans (Ao nst (.lst []));have rv2:=rv.same (Ao nst (.lst []));have hst:upd H1 st (.lst []) st=some (.lst []):=Ac;have fst:=s1.free nst;generalize upd H1 st (.lst [])=H2 at s2 rv2 hst;refine Dz [some (.ref x.p),some (.ref ct),some (.int k),some (.ref u),some v,some (.ref st),none,none,none,none] rfl ?_;refine (vE rfl ⟨x.p,dx,fs,rfl,s2 _ _ e,n5.2.2.2.1,_,rfl,vE rfl ⟨x.p,cl,ct,x.cs,ns,k,rfl,⟨cva.same s2,⟨xs,s2 _ _ hcl,cc.mono (Ib s2)⟩,s2 _ _ hct,ln,l8⟩,fun pl pxs ms H3 s3 npl hpl up mem l20 tr=>?_⟩⟩);have ch:=DF k0 (G3 k0 x.cs ns) up mem;have lpt:(CRP.foldP (Bx k x.cs ns) ms (ms.length-1)).length<=20:=zAE (CRP.foldP_len _ _ _) (by lia);generalize CRP.foldP (Bx k x.cs ns) ms (ms.length-1)=parts at tr ch lpt;have lpx:=tr.len;have S3:=s2.trans s3;have rv3:=rv2.same s3;have hst3:=s3 _ _ hst;have npst:pl≠st:=(Aq hst npl).symm;refine⟨pl,rfl,⟨_,SqL.of hpl⟩,?_⟩;refine Cy (K:=K) (a:=pl) (xs:=pxs) (fun i σ H4=>(∃ o6 o7 o8 o9,σ=[some (.ref x.p),some (.ref ct),some (.int k),some (.ref u),some v,some (.ref st),o6,o7,o8,o9])/\(∃ ys,H4 st=some (.lst ys)/\Sts H4 ys (CRT.borneS x.nm (G8 (Cm x.cs ns)) (parts.take i) un)/\ys.length<=60*i)/\(∀ b o,H3 b=some o->b≠st->H4 b=some o))
  ⟨⟨none,none,none,none,rfl⟩,⟨[],hst3,trivial,zAl _⟩,fun b o z _=>z⟩ (fun i σ H4 _ hh=>SqL.of (hh.2.2 _ _ hpl npst)) ?_ ?_
 ·rintro i y σ H4 hi ⟨⟨o6,o7,o8,o9,rfl⟩,⟨ys,h4,sy,ly⟩,kp⟩
  obtain⟨t,p,hp,rfl,ht⟩:=tr.get hi;have il:i<parts.length:=(zAj.mp hp).1;have tst:∀ {b:Addr} {zs:List V},H3 b=some (.tup zs)->H4 b=some (.tup zs):=fun z=>kp _ _ z (Eu z hst3 (by intro y; cases y));refine⟨t,_,rfl,SqT.of (tst ht),rfl,vC rfl (vC rfl (vC rfl (⟨rfl,?_⟩)))⟩;refine EG (.int (G8 (Cm x.cs ns) p.2.2)) (fun Q' kq=>?_) ?_
  ·by_cases c:p.2.2 = -1
   ·refine (vE rfl (vE rfl ⟨rfl,vE rfl (dT (by rw[c]) ?_)⟩))
    cases ro:Ej (Ck x.cs ns) 0 none with
    | none=>
     rw[ro] at rv3;have rv':v = .non:=rv3;subst rv';refine (vE rfl ⟨rfl,vE rfl (nF rfl (vE rfl ?_))⟩);unfold Cm at kq;rw[ro] at kq;exact kq
    | some nj=>
     obtain⟨n,j⟩:=nj;rw[ro] at rv3;obtain⟨t2,rfl,ht3⟩:=rv3;refine (vE rfl ⟨rfl,vE rfl (nT (fun y=>by cases y) (vE rfl (vI rfl rfl (SqT.of (tst ht3)) rfl ?_)))⟩);unfold Cm G8 at kq;rw[ro] at kq
     dsimp only at kq
     rw[if_pos c] at kq;exact kq
   ·refine (vE rfl (vE rfl ⟨rfl,vE rfl (dF (fun y=>c (V.int.inj y)) (vE rfl ?_))⟩))
    have eg:G8 (Cm x.cs ns) p.2.2=p.2.2:=by
     unfold G8
     split
     ·rfl
     ·rw[if_neg c]
    rw[eg] at kq;exact kq
  refine LH [some (.ref x.p),some (.ref ct),some (.int k),some (.ref u),some v,some (.ref st),some (.int p.1),some (.int p.2.1),some (.int p.2.2),some (.int (G8 (Cm x.cs ns) p.2.2))] rfl ?_;generalize G8 (Cm x.cs ns)=g at sy ⊢;obtain⟨us,hu0,pu0⟩:=id lu;have lu4:LP H4 u un:=⟨us,kp _ _ (S3 _ _ hu0) (Aq hu0 fst),(pu0.mono (Bq S3)).mono fun b ws y=>tst y⟩;have e4:=kp _ _ (S3 _ _ e) (Aq e fst);refine (vE rfl ⟨.inl ⟨rfl,_,SqL.of h4⟩,vE rfl (vE rfl (vE rfl ⟨u,un,p.1,p.2.1,rfl,lu4,by lia,fun r1 H5 s5 nr1 lp=>?_⟩))⟩);obtain⟨rs,hr1,pr⟩:=id lp;have lr:=pr.len;have lc:=CR.cutW_len un p.1 p.2.1;refine⟨r1,rfl,⟨_,SqL.of hr1⟩,fun c1 nc1=>?_⟩;refine Bz (K:=K) (a:=r1) (xs:=rs) (fun j zs H6=>Sts H6 zs (CRT.tag x.nm (g p.2.2) ((CR.cutW un p.1 p.2.1).take j))/\H6 c1=some (.lst zs)/\Same H5 H6) ⟨trivial,Ac,Ao nc1 _⟩
   (fun j zs H6 _ ⟨e6,x1,x2⟩=>⟨x1,by rw[e6.len]; unfold CRT.tag; rw[zAb,zAt]; lia,SqL.of (x2 _ _ hr1)⟩) (by rw[zCw]; lia) (fun j w zs H6 hj ⟨e6,x1,x2⟩=>?_) (fun zs H6 ⟨e6,x1,x2⟩=>?_)
  ·obtain⟨t',p',hp',rfl,ht'⟩:=pr.get hj
   refine (vE rfl (vI rfl rfl (SqT.of (x2 _ _ ht')) rfl (vE rfl (vI rfl rfl (SqT.of (x2 _ _ ht')) rfl (vE rfl ⟨x.p,Aj,dx,fs,_,rfl,x2 _ _ (s5 _ _ e4),L.cl_Cover,L.na_Cover_name,a1,_,rfl,By (by show 4<=1000; decide),fun v1 nv1=>?_⟩)))));have s7:=Ao nv1 (.tup [.int p'.1,.int p'.2,.str x.nm,.int (g p.2.2)]);refine⟨s7 _ _ x1,rfl,?_,Ac,fun b o z=>?_⟩
   ·rw[B6 hp']
    exact ((e6.mono (Bq s7)).app (Sts.one (p:=(p'.1,p'.2,x.nm,g p.2.2)) Ac)).mono (Dm (s7 _ _ x1) _)
   ·rw[Aw (Aq z nc1)]
    exact s7 _ _ (x2 b o z)
  rw[lr,zAw] at e6;have s6:=s5.trans x2;have h6:=s6 _ _ h4;have lz:=e6.len;have lt:(CRT.tag x.nm (g p.2.2) (CR.cutW un p.1 p.2.1)).length=(CR.cutW un p.1 p.2.1).length:=by unfold CRT.tag; rw[zAb]
  refine⟨st,c1,ys,zs,rfl,rfl,h6,x1,by rw[zCw]; lia,?_⟩;refine⟨⟨_,_,_,_,rfl⟩,⟨_,Ac,?_,by rw[zAi]; lia⟩,fun b o z nb=>?_⟩
  ·rw[L9 hp]
   exact ((sy.mono (Bq s6)).app e6).mono (Dm h6 _)
  ·rw[Aw nb]
   exact s6 _ _ (kp b o z nb)
 ·rintro σ H4 ⟨⟨o6,o7,o8,o9,rfl⟩,⟨ys,h4,sy,ly⟩,kp⟩
  rw[lpx,zAw] at sy;refine (vE rfl (q st ys parts H4 (fun b o z=>kp b o (S3 _ _ z) (Aq z fst)) fst h4 ch lpt sy (by lia)))
end
theorem Nb:∀ {rs:List (Option Int)} {k:Int} {o:Option (Int×Int)} {n j:Int},Ej rs k o=some (n,j)->o=some (n,j)\/∃ i:Nat,rs[i]?=some (some n)/\j=k+i
 | [],k,o,n,j,h=>.inl h
 | none::r,k,o,n,j,h=>by
  unfold Ej at h;rcases Nb h with z | ⟨i,z1,z2⟩
  ·exact .inl z
  ·exact .inr ⟨i+1,by simpa using z1,by lia⟩
 | some m::r,k,none,n,j,h=>by
  unfold Ej at h;rcases Nb h with z | ⟨i,z1,z2⟩
  ·cases z
   exact .inr ⟨0,rfl,by simp⟩
  ·exact .inr ⟨i+1,by simpa using z1,by lia⟩
 | some m::r,k,some (m',j'),n,j,h=>by
  unfold Ej at h;rcases Nb h with z | ⟨i,z1,z2⟩
  ·split at z
   ·cases z
    exact .inr ⟨0,rfl,by simp⟩
   ·exact .inl z
  ·exact .inr ⟨i+1,by simpa using z1,by lia⟩
theorem Wb:∀ {cs:List Cl} {ns:List Int} {i:Nat} {n:Int} (k:Int),(Ck cs ns)[i]?=some (some n)->(Bx k cs ns)[i]?=some (0,k)
 | [],_,i,n,k,h=>by unfold Ck at h; simp at h
 | _::_,[],i,n,k,h=>by unfold Ck at h; simp at h
 | c::cs,m::ns,0,n,k,h=>by
  unfold Ck at h;unfold Bx;rw[zCr] at h ⊢;simp at h;cases c with
  | lim y a=>rfl
  | own y d=>cases h
  | lay y a b=>cases h
  | any y=>cases h
 | c::cs,m::ns,i+1,n,k,h=>by
  unfold Ck at h;unfold Bx;rw[zCr] at h ⊢;simp only [List.getElem?_cons_succ] at h ⊢;exact Wb (cs:=cs) (ns:=ns) k h
theorem M3:∀ {sp:List (Int×Int)} {k c:Int},CRP.fwFrom sp k c = -1\/∃ i:Nat,∃ q,sp[i]?=some q/\CRP.fwFrom sp k c=k+i/\(c<q.1\/q.2<=c)
 | [],k,c=>.inl rfl
 | (a,b)::r,k,c=>by
  unfold CRP.fwFrom;by_cases z:c<a\/b<=c
  ·rw[if_pos z]
   exact .inr ⟨0,(a,b),rfl,by simp,z⟩
  ·rw[if_neg z]
   rcases M3 (sp:=r) (k:=k+1) (c:=c) with y | ⟨i,q,y1,y2,y3⟩
   ·exact .inl y
   ·exact .inr ⟨i+1,q,by simpa using y1,by rw[y2]; lia,y3⟩
theorem IK:∀ {sp:List (Int×Int)} {k c:Int},0<=k->CRP.fwFrom sp k c = -1->∀ q∈sp,q.1<=c/\c<q.2
 | [],_,_,_,_,q,h=>nomatch h
 | (a,b)::r,k,c,k0,h,q,hq=>by
  unfold CRP.fwFrom at h;by_cases z:c<a\/b<=c
  ·rw[if_pos z] at h
   lia
  ·rw[if_neg z] at h
   rcases zAn.mp hq with y | y
   ·rw[y]
    exact⟨by show a<=c; lia,by show c<b; lia⟩
   ·exact IK (by lia) h q y
theorem BS {sp:List (Int×Int)} {k:Int} {parts:List CRP.Tr3} (ch:CRP.Ch (CRP.fw sp) 0 none parts k) {p:CRP.Tr3} (hp:p∈parts):∃ c,0<=c/\c<k/\CRP.fw sp c=p.2.2:=by
 obtain⟨i,hi,e⟩:=zAX hp;have g:=CRP.Ch.get (i:=i) (p:=p) ch (by rw[zAe hi,e]);exact⟨p.1,g.2.2.2.1,by have:=g.1; have:=g.2.2.2.2; omega,g.2.1 p.1 (Int.le_refl _) g.1⟩
theorem Yi {cs:List Cl} {ns:List Int} {k n j:Int} (ro:Cm cs ns=some (n,j)) {parts:List CRP.Tr3} (ch:CRP.Ch (CRP.fw (Bx k cs ns)) 0 none parts k):0<=j/\∀ p∈parts,p.2.2≠j:=by
 unfold Cm at ro;rcases Nb ro with z | ⟨i,z1,z2⟩
 ·cases z
 refine⟨by lia,fun p hp e=>?_⟩;obtain⟨c,c0,ck,ec⟩:=BS ch hp;have sp:=Wb k z1;unfold CRP.fw at ec;rcases M3 (sp:=Bx k cs ns) (k:=0) (c:=c) with y | ⟨i',q,y1,y2,y3⟩
 ·lia
 ·have:i'=i:=by lia
  subst this;rw[sp] at y1;cases y1
  dsimp only at y3
  lia
theorem IX {cs:List Cl} {ns:List Int} {k:Int} {parts:List CRP.Tr3} (ch:CRP.Ch (CRP.fw (Bx k cs ns)) 0 none parts k):∀ p∈parts,∀ q∈parts,G8 (Cm cs ns) p.2.2=G8 (Cm cs ns) q.2.2->p.2.2=q.2.2:=by
 intro p hp q hq e;cases ro:Cm cs ns with
 | none=>
  rw[ro] at e;exact e
 | some nj=>
  obtain⟨n,j⟩:=nj;obtain⟨j0,no⟩:=Yi ro ch;rw[ro] at e;have e':(if p.2.2 = -1 then j else p.2.2)=if q.2.2 = -1 then j else q.2.2:=e;have n1:=no p hp;have n2:=no q hq;by_cases c1:p.2.2 = -1
  ·by_cases c2:q.2.2 = -1
   ·lia
   ·rw[if_pos c1,if_neg c2] at e'
    exact absurd e'.symm n2
  ·by_cases c2:q.2.2 = -1
   ·rw[if_neg c1,if_pos c2] at e'
    exact absurd e' n1
   ·rw[if_neg c1,if_neg c2] at e'
    exact e'
def KW (kvs:Ii) (z:LF) (x:Cvx) (a:CRT.Av Str):Prop:=∃ W,EU z.ct x.cs (numsOf kvs z x) W/\a=(x.nm,W,(Cm x.cs (numsOf kvs z x)).map (·.1))
def Avs (kvs:Ii) (z:LF):List Cvx->List (CRT.Av Str)->Prop
 | [],[]=>True
 | x::xs,a::as=>KW kvs z x a/\Avs kvs z xs as
 | _,_=>False
theorem Avs.names {kvs:Ii} {z:LF}:∀ {xs:List Cvx} {as:List (CRT.Av Str)},Avs kvs z xs as->as.map (·.1)=xs.map (·.nm)
 | [],[],_=>rfl
 | [],_::_,h=>h.elim
 | _::_,[],h=>h.elim
 | x::xs,a::as,⟨⟨W,_,e⟩,r⟩=>by rw[zAK,zAK,Avs.names r,e]
theorem Avs.snoc {kvs:Ii} {z:LF}:∀ {xs:List Cvx} {as:List (CRT.Av Str)} {x:Cvx} {a:CRT.Av Str},Avs kvs z xs as->KW kvs z x a->Avs kvs z (xs++[x]) (as++[a])
 | [],[],_,_,_,h=>⟨h,trivial⟩
 | [],_::_,_,_,r,_=>r.elim
 | _::_,[],_,_,r,_=>r.elim
 | x::xs,a::as,_,_,⟨h,r⟩,g=>⟨h,Avs.snoc r g⟩
theorem Avs.len {kvs:Ii} {z:LF} {xs:List Cvx} {as:List (CRT.Av Str)} (h:Avs kvs z xs as):as.length=xs.length:=by
 have:=congrArg List.length h.names
 rwa [zAb,zAb] at this
theorem DI {kvs:Ii} {z:LF} {x:Cvx} {xs:List Cvx} {as:List (CRT.Av Str)} (av:Avs kvs z (x::xs) as) (c0:0<z.ct) {parts:List CRP.Tr3} (ch:CRP.Ch (CRP.fw (Bx z.ct x.cs (numsOf kvs z x))) 0 none parts z.ct) :
  ∀ p∈parts,G8 (Cm x.cs (numsOf kvs z x)) p.2.2 = -1->∀ n,p.1<=n->n<p.2.1->CR.inR (CRT.leftS as [(0,z.ct)]) n=false:=by
 intro p hp hg n n1 n2
 match as,av with
 | a::as,⟨⟨W,hw,ea⟩,r⟩=>
  obtain⟨i,hi,e⟩:=zAX hp;have g:=CRP.Ch.get (i:=i) (p:=p) ch (by rw[zAe hi,e]);have fn:=g.2.1 n n1 n2;have b0:=g.2.2.2.1;have b1:=g.2.2.2.2;cases ro:Cm x.cs (numsOf kvs z x) with
  | some nj=>
   obtain⟨m,j⟩:=nj;obtain⟨j0,no⟩:=Yi ro ch;rw[ro] at hg;have hg':(if p.2.2 = -1 then j else p.2.2) = -1:=hg
   split at hg'
   ·omega
   ·contradiction
  | none=>
   rw[ro] at hg ea;have k1:p.2.2 = -1:=hg;rw[k1] at fn;have inn:=IK (Int.le_refl 0) fn;obtain⟨lo,hi',mx,mn,eW⟩:=hw;have l1:lo<=n:=by
    rcases zAn.mp mx.1 with y | y
    ·omega
    ·obtain⟨q,hq,y'⟩:=zAD.mp y
     have:=inn q hq;have y'':q.1=lo:=y';omega
   have l2:n<hi':=by
    rcases zAn.mp mn.1 with y | y
    ·omega
    ·obtain⟨q,hq,y'⟩:=zAD.mp y
     have:=inn q hq;have y'':q.2=hi':=y';omega
   cases zl:CR.inR (CRT.leftS (a::as) [(0,z.ct)]) n with
   | false=>rfl
   | true=>
    exfalso;have f1:=CRT.frm_one c0;have zl':CR.inR (CRT.leftS as (CR.outW [(0,z.ct)] (CRT.payW a [(0,z.ct)]))) n=true:=zl;have:=CRT.leftS_sub (CR.outW_frm f1 (CRT.payW_frm f1)) zl';rw[CR.outW_in (CRT.payW_frm f1),zAv,zBp] at this;have pin:CR.inR (CRT.payW a [(0,z.ct)]) n=true:=by
     rw[ea];show CR.inR (CR.cutW [(0,z.ct)] W.1 W.2) n=true;rw[CR.cutW_in,zAv,zAv,decide_eq_true_eq,decide_eq_true_eq,eW];refine⟨CRT.in_one.mpr ⟨by omega,by omega⟩,l1,?_⟩;show n<if hi'>lo then hi' else lo
     split <;> omega
    rw[pin] at this;cases this.2
def Ic (kvs:Ii) (z:LF) (as:List Cvx) (S:List Rp):Prop:=match as with
 | []=>S=[((0:Int),z.ct,("" : Str),(0:Int))]
 | x::_=>∃ avs parts,Avs kvs z as avs/\CRP.Ch (CRP.fw (Bx z.ct x.cs (numsOf kvs z x))) 0 none parts z.ct/\S.Perm (CRT.allS avs x.nm (G8 (Cm x.cs (numsOf kvs z x))) parts z.ct)/\S.Pairwise (fun s t=>s.1<t.1)
set_option tactic.hygienic true in
theorem D6 {kvs:Ii} {z:LF} {as:List Cvx} {S:List Rp} (h:Ic kvs z as S) (nd:(as.map (·.nm)).Nodup) (c0:0<z.ct):CRT.FormS 0 none S z.ct:=by
 unfold Ic at h
 split at h
 ·rw[h]
  exact⟨rfl,c0,(fun y=>by cases y),rfl⟩
 ·rename_i x _
  obtain⟨avs,parts,av,ch,pm,so⟩:=h;have sp:=CRT.all_sep (cs:=avs) c0 (by rw[av.names]; exact nd) ch (IX ch) (DI av c0 ch) (nm:=x.nm);exact CRT.form_of (by lia) (sp.perm pm) so (fun n=>(CRT.inS_perm pm).trans (CRT.all_in c0 ch)) (fun s _ _ y=>by cases y)
theorem Sc (a:CRT.Av Str):∀ (as:List (CRT.Av Str)) (un:List CR.Rn),CRT.paidS (as++[a]) un=CRT.paidS as un++CRT.tag a.1 (-1) (CRT.payW a (CRT.leftS as un))/\CRT.leftS (as++[a]) un=CR.outW (CRT.leftS as un) (CRT.payW a (CRT.leftS as un))
 | [],un=>⟨by show CRT.tag a.1 (-1) (CRT.payW a un)++[]=[]++CRT.tag a.1 (-1) (CRT.payW a un); simp,rfl⟩
 | c::as,un=>by
  have ih:=Sc a as (CR.outW un (CRT.payW c un));refine⟨?_,ih.2⟩;show CRT.tag c.1 (-1) (CRT.payW c un)++CRT.paidS (as++[a]) _=(CRT.tag c.1 (-1) (CRT.payW c un)++CRT.paidS as _)++_;rw[ih.1,zBS];rfl
theorem HP {un:List CR.Rn} {B:List Int} (f:CR.Frm un) (e:CRT.EndsIn B un):un.length<=B.length:=by
 have nd:(un.map (·.1)).Nodup:=by
  rw[zBt,zBG];refine f.pw.imp_of_mem fun {p q} hp hq h z=>?_;have:=f.lt p hp
  lia
 have:=CRT.few_of (m:=B) nd fun x hx=>by
  obtain⟨p,hp,rfl⟩:=zAD.mp hx;exact (e p hp).1
 rwa [zAb] at this
theorem G7 {c:Int} (c0:0<c) (as:List (CRT.Av Str)):(CRT.leftS as [(0,c)]).length<=2+3*as.length:=by
 obtain⟨B,b1,b2,b3,b4⟩:=CRT.paid_ends (cs:=as) (B:=[0,c]) (CRT.frm_one c0) (fun p hp=>by rw[zAo.mp hp]; simp);have:=HP (CRT.leftS_frm (CRT.frm_one c0)) b3;rw[b1] at this;exact this
theorem HY (a:CRT.Av Str) (un:List CR.Rn):(CRT.payW a un).length<=un.length:=by
 unfold CRT.payW
 split
 ·exact CR.cutW_len _ _ _
 ·exact zAE (CR.lowW_len _ _) (CR.cutW_len _ _ _)
theorem Sts.tupF {K:zAa} {H:Hp}:∀ {xs:List V} {S:List Rp},Sts H xs S->TupF K H xs (S.map (·.1))
 | [],[],_=>trivial
 | [],_::_,h=>h.elim
 | _::_,[],h=>h.elim
 | x::xs,p::ps,⟨⟨t,e,h⟩,r⟩=>⟨⟨t,_,e,SqT.of h,rfl⟩,Sts.tupF r⟩
theorem Sts.pick {H:Hp} {xs:List V} {S:List Rp} (h:Sts H xs S):∀ l:List Nat,(∀ i∈l,i<S.length)->Sts H (l.map fun i=>xs.getD i .non) (l.map fun i=>S.getD i (0,0, "",0))
 | [],_=>trivial
 | i::l,hl=>by
  have hi:=hl i zAk;have lx:=h.len;obtain⟨t,p,e1,e2,e3⟩:=h.get (i:=i) (zAe (by lia));refine⟨⟨t,?_,?_⟩,Sts.pick h l fun j hj=>hl j (zAd _ hj)⟩
  ·show xs.getD i .non = .ref t
   rw[zAr,zAe (by lia)];exact e2
  ·show H t=some (.tup (EC (S.getD i (0,0, "",0))))
   rw[zAr,e1];exact e3
def Sy (κ:A8) (CC CO CL CM C CB CN:Addr):Sp:=fun vs H Q _=>∃ b cp kp kvs l z bs,vs=[.ref b,.ref cp,.ref l]/\AskAt κ CC CO CL CM C CB H b bs/\(∀ x∈bs,Mv x.t<4)/\bs.length<=8/\(bs.map (·.nm)).Nodup/\CtAt CN H cp kp kvs/\IntV kvs/\H l=some (.tup (LF.vs z))/\0<z.ct /\
 ∀ r ys S H',Same H H'->H r=none->H' r=some (.lst ys)->Sts H' ys S->Ic kvs z (Dy z bs) S->S.length<64->Q (.ref r) H'
section
seal L2.PS L2.PSs L2.PE L2.PA
variable {P:Program} {w:World} {K:zAa} {mg:Str->Option Value} {base:Heap} {Ab Ag Af Am At Ba Az As Ad Au Ak Ah Bg Aj Bb Ap:Addr}
theorem Xz:Bd ["book", "counts", "loss", "cents", "asked", "unpaid", "strips", "cover", "paid", "first"] ["book", "counts", "loss"] (Ar Kv):=⟨rfl,rfl,rfl,by decide +kernel,rfl,by decide +kernel,by decide +kernel⟩
theorem Xf {f:Addr} {fd:zCy} (F:Fun K "strips_of" "strips_of" Kv f fd) (T:Txt K mg) (L:Kl K mg Ab Ag Af Am At Ba Az As Ad Au Ak Ah Bg Aj Bb Ap) (Casked_of:Cp P w K mg base 6 "asked_of" ["book", "loss"] (Rg (A8.mk Ab Ag Af Am At Ba Az As) Ad Au Ak Ah Aj Bb 4)) (Cnumbers_of:Cp P w K mg base 3 "numbers_of" ["cover", "counts", "loss"] (N4 (A8.mk Ab Ag Af Am At Ba Az As) Ad Au Ak Ah Aj Ap))
  (Cpaid_runs:Cp P w K mg base 5 "paid_runs" ["cover", "numbers", "cents", "unpaid"] (P0 (A8.mk Ab Ag Af Am At Ba Az As) Ad Au Ak Ah Aj)) (Cborne_strips:Cp P w K mg base 5 "borne_strips" ["cover", "numbers", "cents", "unpaid"] (Ze (A8.mk Ab Ag Af Am At Ba Az As) Ad Au Ak Ah Aj)) (Ccut_out:Cp P w K mg base 2 "cut_out" ["runs", "others"] CH) :
  FnOk P w K mg base Da 7 f fd ["book", "counts", "loss"] (Sy (A8.mk Ab Ag Af Am At Ba Az As) Ad Au Ak Ah Aj Bb Ap):=by
 have sc:=Xz;refine F.ok sc (fun vs H Q E h=>?_) (fun cdv A outer s H vs Q E hr h=>?_)
 ·obtain⟨_,_,_,_,_,_,_,rfl,_⟩:=h
  rfl
 obtain⟨b,cp,kp,kvs,l,z,bs,rfl,ask,hm,l8,nd,ct,iv,hl,c0,q⟩:=h;refine⟨_,(Ae (Bh (i:=3) sc.nd rfl (Or.inl rfl) (Bf Bn (pv 2) (Dg T.g_CENTS rfl) (fun _ _=>rfl)))
   (Ae (Bh (i:=4) sc.nd rfl (Or.inl rfl) (Ax Casked_of (hr.mono (by decide)) rfl (Aa (pv 0) (Aa (pv 2) Ai))))
   (Ae (Bt (Df (FM (pv 4)))
    (An (Bc (Ce (Aa (Cc (Aa Al (Aa (pv 3) (Aa Br (Aa Al Ai))))) Ai))))
    Bk)
   (Ae (Bh (i:=5) sc.nd rfl (Or.inl rfl) (Ce (Aa (Cc (Aa Al (Aa (pv 3) Ai))) Ai)))
   (Ae (Bh (i:=6) sc.nd rfl (Or.inl rfl) (Ce Ai))
   (Ae (Cj PassesOwn.never rfl (Bs (pv 4)) (Ay (i:=7) sc.nd rfl (Or.inr rfl))
    (Ae (Bh (i:=8) sc.nd rfl (Or.inl rfl) (Ax Cpaid_runs (hr.mono (by decide)) rfl (Aa (pv 7) (Aa (Ax Cnumbers_of (hr.mono (by decide)) rfl (Aa (pv 7) (Aa (pv 1) (Aa (pv 2) Ai)))) (Aa (pv 3) (Aa (pv 5) Ai))))))
   (Ae (Ct (Hd PySem.F.plainAttrs_list PySem.F.slot_list_extend PySem.F.type_list_extend Ld (pv 6) (Aa (Cn (NC:=["run", "cover"]) (own:=["run"]) (cs:=["cover"]) (ix:=[7]) rfl (CompScope.of rfl) rfl ⟨⟨rfl,.inl rfl,rfl⟩,trivial⟩ (Bs (pv 8)) (fun _ _ _=>(Ay (i:=0) (show (["run", "cover"]:List Str).Nodup from by decide +kernel) rfl (Or.inl rfl))) (fun _ _ _=>Cu) (fun _ _ _=>(Cc (Aa (Bf (Dd (K:=K) rfl) (pv 0) Al (fun _ _=>rfl)) (Aa (Bf (Dd (K:=K) rfl) (pv 0) Al (fun _ _=>rfl)) (Aa (Lc (K:=K) (pv 1) rfl) (Aa (Wj Pc Al) Ai))))))) Ai)))
   (An (Bh (i:=5) sc.nd rfl (Or.inl rfl) (Ax Ccut_out (hr.mono (by decide)) rfl (Aa (pv 5) (Aa (pv 8) Ai))))))))
   (Ae (Bh (i:=9) sc.nd rfl (Or.inl rfl) (Bf Bp (pv 4) Al (fun _ _=>rfl)))
   (Ae (Ct (Hd PySem.F.plainAttrs_list PySem.F.slot_list_extend PySem.F.type_list_extend Ld (pv 6) (Aa (Ax Cborne_strips (hr.mono (by decide)) rfl (Aa (pv 9) (Aa (Ax Cnumbers_of (hr.mono (by decide)) rfl (Aa (pv 9) (Aa (pv 1) (Aa (pv 2) Ai)))) (Aa (pv 3) (Aa (pv 5) Ai))))) Ai)))
   (An (Bc (Bo Yz rfl T.n_sorted (show zCx _=some (.builtin "sorted") from rfl) (Aa (pv 6) Ai)))))))))))),?_⟩
 have one:1<=sizeLine:=by rw[zCw]; decide
 have two:2<=sizeLine:=by rw[zCw]; decide
 refine (vE rfl (vI rfl rfl (SqT.of hl) rfl ?_));refine Dz [some (.ref b),some (.ref cp),some (.ref l),some (.int z.ct),none,none,none,none,none,none] rfl ?_;refine (vE rfl (vE rfl ⟨b,l,bs,z,rfl,ask,hm,by lia,hl,fun ak H1 s1 nak hak=>?_⟩));refine Dz [some (.ref b),some (.ref cp),some (.ref l),some (.int z.ct),some (.ref ak),none,none,none,none,none] rfl ?_;have sub:∀ x∈Dy z bs,x∈bs:=fun x hx=>(zAT.mp hx).1;have la:(Dy z bs).length<=8:=zAE (zAG _ _) l8;have nda:((Dy z bs).map (·.nm)).Nodup:=nd.sublist (List.Sublist.map _ List.filter_sublist);obtain⟨_,_,_,_,_,_,all⟩:=ask;have alla:∀ x∈Dy z bs,CvxAt (A8.mk Ab Ag Af Am At Ba Az As) Ad Au Ak Ah Aj H1 x:=fun x hx=>(all x (sub x hx)).same s1;have ct1:=ct.same s1;have hl1:=s1 _ _ hl;clear all ct hl hm l8 nd;generalize Dy z bs=as at hak sub la nda alla q;refine (vE rfl ⟨_,.inl ⟨_,SqL.of hak,rfl⟩,?_⟩);cases eas:as with
 | nil=>
  rw[eas] at q;refine Kb (vE rfl ⟨By (by show 4<=1000; decide),fun t nt=>⟨one,fun r nr=>?_⟩⟩);have s2:=Ao nt (.tup (EC (0,z.ct, "",0)));have s3:=Ao nr (.lst [V.ref t]);exact q r [.ref t] [(0,z.ct, "",0)] _ (s1.trans (s2.trans s3)) (s1.free (s2.free nr)) Ac (Sts.one (s3 _ _ Ac)) rfl (show 1<64 by decide)
 | cons x0 more=>
 refine Dj ?_;have e0:as[0]?=some x0:=by rw[eas]; rfl
 refine (vE rfl ⟨two,fun t0 nt0=>⟨one,fun u0 nu0=>?_⟩⟩);have s2:=(Ao nt0 (.tup [V.int 0,.int z.ct])).trans (Ao nu0 (.lst [V.ref t0]));have lu0:LP (upd (upd H1 t0 (.tup [V.int 0,.int z.ct])) u0 (.lst [V.ref t0])) u0 [(0,z.ct)]:=⟨_,Ac,⟨t0,rfl,Ao nu0 (.lst [V.ref t0]) _ _ Ac⟩,trivial⟩;generalize upd (upd H1 t0 (.tup [V.int 0,.int z.ct])) u0 (.lst [V.ref t0])=H2 at s2 lu0;refine Dz [some (.ref b),some (.ref cp),some (.ref l),some (.int z.ct),some (.ref ak),some (.ref u0),none,none,none,none] rfl ?_;refine⟨zAA _,fun st nst=>?_⟩;have S3:=s2.trans (Ao nst (.lst []));have fst:=s2.free nst;have lu3:=LP.same (Ao nst (.lst [])) lu0;have hst3:upd H2 st (.lst []) st=some (.lst []):=Ac;have nus:u0≠st:=by
  obtain⟨_,y,_⟩:=lu0;exact Aq y nst
 generalize upd H2 st (.lst [])=H3 at S3 lu3 hst3;refine Dz [some (.ref b),some (.ref cp),some (.ref l),some (.int z.ct),some (.ref ak),some (.ref u0),some (.ref st),none,none,none] rfl ?_;have hak3:=S3 _ _ hak;have ncs:cp≠st/\kp≠st:=by
  obtain⟨⟨_,_,y,_⟩,y2⟩:=id ct1;exact⟨Aq y fst,Aq y2 fst⟩
 refine (vE rfl ⟨ak,rfl,⟨_,SqL.of hak3⟩,?_⟩);refine Cy (K:=K) (a:=ak) (xs:=as.map xV) (fun i σ H4=>(∃ u o7 o8,σ=[some (.ref b),some (.ref cp),some (.ref l),some (.int z.ct),some (.ref ak),some (.ref u),some (.ref st),o7,o8,none]/\u≠st /\
   ∃ avs ys,Avs kvs z (as.take i) avs/\LP H4 u (CRT.leftS avs [(0,z.ct)])/\H4 st=some (.lst ys)/\Sts H4 ys (CRT.paidS avs [(0,z.ct)])/\ys.length<=60*i)/\Same H1 H4)
  ⟨⟨u0,none,none,rfl,nus,[],[],trivial,lu3,hst3,trivial,zAl _⟩,S3⟩ (fun i σ H4 _ hh=>SqL.of (hh.2 _ _ hak)) ?_ ?_
 ·rintro i y σ H4 hi ⟨⟨u,o7,o8,rfl,nu,avs,ys,av,lu,h4,sy,ly⟩,S4⟩
  rw[zAs] at hi;obtain⟨x,hx,rfl⟩:=zAI.mp hi;have il:i<as.length:=(zAj.mp hx).1;have lav:avs.length<=8:=by rw[av.len,zAt]; lia
  have lun:=G7 c0 avs;have cx:=(alla x (zAB hx)).same S4;generalize eun:CRT.leftS avs [(0,z.ct)]=un at lu lun;refine (vE rfl (vE rfl (vE rfl (vE rfl ⟨x,cp,kp,kvs,l,z,rfl,cx,ct1.same S4,iv,S4 _ _ hl1,fun nr H5 s5 nnr hnr=>(vE rfl (vE rfl ⟨x,nr,u,un,numsOf kvs z x,z.ct,rfl,cx.same s5,hnr,D7 kvs z x,LP.same s5 lu,by lia,fun pd W H6 s6 npd wa lp6=>?_⟩))⟩))));refine Dz [some (.ref b),some (.ref cp),some (.ref l),some (.int z.ct),some (.ref ak),some (.ref u),some (.ref st),some (.ref x.p),some (.ref pd),none] rfl ?_;have s56:=s5.trans s6;have lpy:=HY (x.nm,W,(Cm x.cs (numsOf kvs z x)).map (·.1)) un;have av':KW kvs z x (x.nm,W,(Cm x.cs (numsOf kvs z x)).map (·.1)):=⟨W,wa,rfl⟩;have sn:=Sc (x.nm,W,(Cm x.cs (numsOf kvs z x)).map (·.1)) avs [(0,z.ct)];rw[eun] at sn;generalize (x.nm,W,(Cm x.cs (numsOf kvs z x)).map (·.1))=av1 at lp6 lpy av' sn;have en:av1.1=x.nm:=by obtain⟨_,_,y⟩:=av'; rw[y]
  rw[en] at sn;have h6:=s56 _ _ h4;obtain⟨rs,hpd,pr⟩:=id lp6;have lr:=pr.len;obtain⟨dx,fs,_,_,_,e,a1,_⟩:=cx.same s56;refine (vE rfl ⟨.inl ⟨rfl,_,SqL.of h6⟩,vE rfl ⟨pd,rfl,⟨_,SqL.of hpd⟩,fun c1 nc1=>?_⟩⟩);refine Bz (K:=K) (a:=pd) (xs:=rs) (fun j zs H7=>Sts H7 zs (CRT.tag x.nm (-1) ((CRT.payW av1 un).take j))/\H7 c1=some (.lst zs)/\Same H6 H7) ⟨trivial,Ac,Ao nc1 _⟩
   (fun j zs H7 _ ⟨e6,x1,x2⟩=>⟨x1,by rw[e6.len]; unfold CRT.tag; rw[zAb,zAt]; lia,SqL.of (x2 _ _ hpd)⟩) (by rw[zCw]; lia) (fun j w zs H7 hj ⟨e6,x1,x2⟩=>?_) (fun zs H7 ⟨e6,x1,x2⟩=>?_)
  ·obtain⟨t',p',hp',rfl,ht'⟩:=pr.get hj
   refine (vE rfl (vI rfl rfl (SqT.of (x2 _ _ ht')) rfl (vE rfl (vI rfl rfl (SqT.of (x2 _ _ ht')) rfl (vE rfl ⟨x.p,Aj,dx,fs,_,rfl,x2 _ _ e,L.cl_Cover,L.na_Cover_name,a1,_,rfl,By (by show 4<=1000; decide),fun v1 nv1=>?_⟩)))));have s7:=Ao nv1 (.tup [.int p'.1,.int p'.2,.str x.nm,.int (-1)]);refine⟨s7 _ _ x1,rfl,?_,Ac,fun b o z=>?_⟩
   ·rw[B6 hp']
    exact ((e6.mono (Bq s7)).app (Sts.one (p:=(p'.1,p'.2,x.nm,-1)) Ac)).mono (Dm (s7 _ _ x1) _)
   ·rw[Aw (Aq z nc1)]
    exact s7 _ _ (x2 b o z)
  rw[lr,zAw] at e6;have h7:=x2 _ _ h6;have lz:=e6.len;have lt:(CRT.tag x.nm (-1) (CRT.payW av1 un)).length=(CRT.payW av1 un).length:=by unfold CRT.tag; rw[zAb]
  refine⟨st,c1,ys,zs,rfl,rfl,h7,x1,by rw[zCw]; lia,?_⟩;have k7:GX H7 (upd H7 st (.lst (ys++zs))):=Dm h7 _;have sts8:=((sy.mono (Bq (s56.trans x2))).app e6).mono k7;rw[<- sn.1] at sts8;have S8:Same H1 (upd H7 st (.lst (ys++zs))):=fun b o z=>by rw[Aw (Aq z fst)]; exact x2 _ _ (s56 _ _ (S4 _ _ z))
  have lpd8:LP (upd H7 st (.lst (ys++zs))) pd (CRT.payW av1 un):=by
   have npst:pd≠st:=(Aq (s5 _ _ h4) npd).symm;exact⟨rs,by rw[Aw npst]; exact x2 _ _ hpd,(pr.mono (Bq x2)).mono k7⟩
  have lu8:LP (upd H7 st (.lst (ys++zs))) u un:=by
   obtain⟨us,y1,y2⟩:=lu;exact⟨us,by rw[Aw nu]; exact x2 _ _ (s56 _ _ y1),(y2.mono (Bq (s56.trans x2))).mono k7⟩
  have h8:upd H7 st (.lst (ys++zs)) st=some (.lst (ys++zs)):=Ac;generalize upd H7 st (.lst (ys++zs))=H8 at sts8 S8 lpd8 lu8 h8;refine (vE rfl (vE rfl ⟨u,pd,un,CRT.payW av1 un,rfl,lu8,lpd8,by lia,by lia,fun u2 H9 s9 nu2 lp9=>?_⟩));have nu2':u2≠st:=(Aq h8 nu2).symm;refine⟨⟨u2,_,_,rfl,nu2',avs++[av1],ys++zs,?_,?_,s9 _ _ h8,sts8.mono (Bq s9),by rw[zAi]; lia⟩,S8.trans s9⟩
  ·rw[Bu hx]
   exact av.snoc av'
  ·rw[sn.2]
   exact lp9
 ·rintro σ H4 ⟨⟨u,o7,o8,rfl,nu,avs,ys,av,lu,h4,sy,ly⟩,S4⟩
  rw[zAb,zAw] at av;rw[zAb] at ly;have lav:avs.length<=8:=by rw[av.len]; exact la
  have lun:=G7 c0 avs;have at0:Of (as.map xV) 0=some (.ref x0.p):=Ge (by rw[zAs,e0]; rfl);refine (vE rfl (vI rfl rfl (SqL.of (S4 _ _ hak)) at0 ?_));refine Dz [some (.ref b),some (.ref cp),some (.ref l),some (.int z.ct),some (.ref ak),some (.ref u),some (.ref st),o7,o8,some (.ref x0.p)] rfl ?_;have cx:=(alla x0 (zAB e0)).same S4;refine (vE rfl ⟨.inl ⟨rfl,_,SqL.of h4⟩,vE rfl (vE rfl (vE rfl (vE rfl ⟨x0,cp,kp,kvs,l,z,rfl,cx,ct1.same S4,iv,S4 _ _ hl1,fun nr H5 s5 nnr hnr=>(vE rfl (vE rfl ⟨x0,nr,u,_,numsOf kvs z x0,z.ct,rfl,cx.same s5,hnr,D7 kvs z x0,LP.same s5 lu,by lia,by lia,fun r1 ys1 parts H6 s6 nr1 hr1 ch lpt sb l12=>?_⟩))⟩)))⟩);have s56:=s5.trans s6;have h6:=s56 _ _ h4;refine⟨st,r1,ys,ys1,rfl,rfl,h6,hr1,by rw[zCw]; lia,?_⟩;have sts7:=((sy.mono (Bq s56)).app sb).mono (Dm h6 (.lst (ys++ys1)));have S7:Same H1 (upd H6 st (.lst (ys++ys1))):=fun b o z=>by rw[Aw (Aq z fst)]; exact s56 _ _ (S4 _ _ z)
  have h7:upd H6 st (.lst (ys++ys1)) st=some (.lst (ys++ys1)):=Ac;generalize upd H6 st (.lst (ys++ys1))=H7 at sts7 S7 h7;rw[eas] at av nda;have sp:CRT.Sep (CRT.allS avs x0.nm (G8 (Cm x0.cs (numsOf kvs z x0))) parts z.ct):=CRT.all_sep c0 (by rw[av.names]; exact nda) ch (IX ch) (DI av c0 ch);have ln:=CRT.all_len (f:=CRP.fw (Bx z.ct x0.cs (numsOf kvs z x0))) c0 sp;have sts8:Sts H7 (ys++ys1) (CRT.allS avs x0.nm (G8 (Cm x0.cs (numsOf kvs z x0))) parts z.ct):=sts7;generalize eS:CRT.allS avs x0.nm (G8 (Cm x0.cs (numsOf kvs z x0))) parts z.ct=S at sts8 sp ln;have lS:=sts8.len;refine (vE rfl ⟨st,ys++ys1,S.map (·.1),rfl,SqL.of h7,?_,sts8.tupF,sp.starts,fun r p nr pm up=>?_⟩)
  ·lia
  rw[lS] at pm up;obtain⟨o1,o2⟩:=AI (d:=((0:Int),(0:Int),("" : Str),(0:Int))) (f:=fun s:Rp=>s.1) pm up sp.starts;have s8:=Ao nr (.lst (p.toList.map fun i=>(ys++ys1).getD i .non));refine q r _ (p.toList.map fun i=>S.getD i (0,0, "",0)) _ (s1.trans (S7.trans s8)) (s1.free (S7.free nr)) Ac ((sts8.pick p.toList fun i hi=>?_).mono (Bq s8)) ?_ (by rw[o1.length_eq]; lia)
  ·have pl:p.toList.Perm (zAL S.length):=by
    have:=zCh.mp pm
    simpa using this
   exact zBu.mp (pl.mem_iff.mp hi)
  ·rw[eas]
   exact⟨avs,parts,av,ch,by rw[eS]; exact o1,o2⟩
end
def Kg (nm:Str) (s:Rp):Bool:=decide (s.2.2.1=nm)&&decide (s.2.2.2 = -1)
def Cz (nm:Str) (S:List Rp):List Int:=(S.filter (Kg nm)).map fun s=>s.2.1-s.1
def LE:Sp:=fun vs H Q _=>∃ nm a ys S,vs=[.str nm,.ref a]/\H a=some (.lst ys)/\Sts H ys S/\S.length<=900/\∀ H',Same H H'->Q (.int (Cz nm S).sum) H'
section
variable {P:Program} {w:World} {K:zAa} {mg:Str->Option Value} {base:Heap}
theorem J4:Bd ["name", "strips"] ["name", "strips"] (Ar Op):=⟨rfl,rfl,rfl,by decide +kernel,rfl,by decide +kernel,by decide +kernel⟩
theorem O1 {f:Addr} {fd:zCy} (F:Fun K "paid_by" "paid_by" Op f fd) (T:Txt K mg):FnOk P w K mg base Da 1 f fd ["name", "strips"] LE:=by
 have sc:=J4;refine F.ok sc (fun vs H Q E h=>?_) (fun cdv A outer s H vs Q E hr h=>?_)
 ·obtain⟨_,_,_,_,rfl,_⟩:=h
  rfl
 obtain⟨nm,a,ys,S,rfl,ha,sts,l9,q⟩:=h;refine⟨_,(An (Bc (Bo (Js rfl) rfl T.n_sum (show zCx _=some (.builtin "sum") from rfl) (Aa (Cn (NC:=["lo", "hi", "payer", "k", "name"]) (own:=["lo", "hi", "payer", "k"]) (cs:=["name"]) (ix:=[0]) rfl (CompScope.of rfl) rfl ⟨⟨rfl,.inl rfl,rfl⟩,trivial⟩ (Bs (pv 1)) (fun _ _ _=>(Ri (K:=K) (n:=4) rfl rfl (Bm (Ay (i:=0) (show (["lo", "hi", "payer", "k", "name"]:List Str).Nodup from by decide +kernel) rfl (Or.inl rfl)) (Bm (Ay (i:=1) (show (["lo", "hi", "payer", "k", "name"]:List Str).Nodup from by decide +kernel) rfl (Or.inl rfl)) (Bm (Ay (i:=2) (show (["lo", "hi", "payer", "k", "name"]:List Str).Nodup from by decide +kernel) rfl (Or.inl rfl)) (Bm (Ay (i:=3) (show (["lo", "hi", "payer", "k", "name"]:List Str).Nodup from by decide +kernel) rfl (Or.inl rfl)) Di)))))) (fun _ _ _=>(Gd (PW.pt (Jk (Bi Cf (pv 2) (pv 4) (Bl _)) (Hg (Bi Cf (pv 3) (Wj Pc Al) (Bl _))))))) (fun _ _ _=>(Be Ji (pv 1) (pv 0)))) Ai)))),?_⟩;have ly:=sts.len;refine (vE rfl ⟨a,rfl,⟨_,SqL.of ha⟩,fun r nr=>?_⟩);refine Sf (K:=K) (a:=a) (xs:=ys) (fun i zs H2=>zs=(Cz nm (S.take i)).map V.int/\H2 r=some (.lst zs)/\Same H H2) ⟨rfl,Ac,Ao nr _⟩
  (fun i zs H2 _ ⟨e,h1,s2⟩=>⟨h1,by rw[e,zAb]; unfold Cz; rw[zAb]; exact zAE (zAG _ _) (by rw[zAt]; lia),SqL.of (s2 _ _ ha)⟩) (by rw[zCw]; lia) (fun i x zs H2 hi ⟨e,h1,s2⟩=>?_) (fun zs H2 ⟨e,h1,s2⟩=>?_)
 ·obtain⟨t,p,hp,rfl,ht⟩:=sts.get hi
  refine⟨t,_,_,_,_,rfl,SqT.of (s2 _ _ ht),?_⟩;have es:Cz nm (S.take (i+1))=Cz nm (S.take i)++if Kg nm p=true then [p.2.1-p.1] else []:=by
   unfold Cz;rw[Bu hp,zBD,zAp];by_cases c:Kg nm p=true
   ·rw[if_pos c,zBn c,zBi]; rfl
   ·rw[if_neg c,zBo c,zBi]; rfl
  by_cases c1:p.2.2.1=nm
  ·refine (vE rfl (vE rfl ⟨rfl,vE rfl (dT (congrArg V.str c1) (vE rfl (vE rfl ⟨rfl,vE rfl ?_⟩)))⟩))
   by_cases c2:p.2.2.2 = -1
   ·refine dT (congrArg V.int c2) ?_
    have c:Kg nm p=true:=by unfold Kg; rw[decide_eq_true c1,decide_eq_true c2]; rfl
    refine (vE rfl (vE rfl (vF rfl rfl ⟨h1,rfl,?_,Ac,fun b o z=>?_⟩)))
    ·rw[es,if_pos c,zAp,e]
     rfl
    ·rw[Aw (Aq z nr)]
     exact s2 b o z
   ·refine dF (fun y=>c2 (V.int.inj y)) ?_
    have c:¬ Kg nm p=true:=by unfold Kg; rw[decide_eq_false c2,zBI]; exact zAm
    refine⟨rfl,?_,h1,s2⟩;rw[es,if_neg c,zAU,e]
  ·refine (vE rfl (vE rfl ⟨rfl,vE rfl (dF (fun y=>c1 (V.str.inj y)) ?_)⟩))
   have c:¬ Kg nm p=true:=by unfold Kg; rw[decide_eq_false c1,zBH]; exact zAm
   refine Dj ⟨rfl,?_,h1,s2⟩;rw[es,if_neg c,zAU,e]
 rw[ly,zAw] at e;subst e;exact⟨r,_,rfl,SqL.of h1,q H2 s2⟩
end
def Nj:Cl->Bool
 | .lim _ _=>true
 | _=>false
def Ed (z:LF) (x:Cvx) (pd:Int) (kvs:Ii):Nat->Ii
 | 0=>kvs
 | i+1=>Fh (Ed z x pd kvs i) (Iy x.nm (i:Int) (Fr ((x.cs[i]?).getD (.any "")).way z)) (.int (B9 (Lp (Ed z x pd kvs i) x.nm (i:Int) (Fr ((x.cs[i]?).getD (.any "")).way z))+if Nj ((x.cs[i]?).getD (.any ""))=true then pd else z.ct))
theorem IntV.put {kvs:Ii} (h:IntV kvs) (k:List Et) (n:Int):IntV (Fh kvs k (.int n)):=fun j v e=>by
 rw[Nr] at e;by_cases c:j=k
 ·rw[if_pos c] at e
  cases e
  exact⟨n,rfl⟩
 ·rw[if_neg c] at e
  exact h j v e
theorem Rb {z:LF} {x:Cvx} {pd:Int} {kvs:Ii} (h:IntV kvs):∀ i,IntV (Ed z x pd kvs i)
 | 0=>h
 | i+1=>(Rb h i).put _ _
theorem Rh {z:LF} {x:Cvx} {pd:Int} {kvs:Ii}:∀ i,(Ed z x pd kvs i).length<=kvs.length+i
 | 0=>zAl _
 | i+1=>zAE (Hh _ _ _) (by have:=Rh (z:=z) (x:=x) (pd:=pd) (kvs:=kvs) i; lia)
def N2 (κ:A8) (CC CO CL CM C CN:Addr):Sp:=fun vs H Q _=>∃ x cp kp kvs l z,∃ pd:Int,vs=[.ref x.p,.ref cp,.ref l,.int pd]/\CvxAt κ CC CO CL CM C H x/\CtAt CN H cp kp kvs/\IntV kvs/\kvs.length<=800/\H l=some (.tup (LF.vs z)) /\
 ∀ H',(∀ b o,H b=some o->b≠kp->H' b=some o)->CtAt CN H' cp kp (Ed z x pd kvs x.cs.length)->Q .non H'
section
variable {P:Program} {w:World} {K:zAa} {mg:Str->Option Value} {base:Heap} {Ab Ag Af Am At Ba Az As Ad Au Ak Ah Bg Aj Bb Ap:Addr}
theorem GQ (L:Kl K mg Ab Ag Af Am At Ba Az As Ad Au Ak Ah Bg Aj Bb Ap) {H:Hp} {o:Addr} {c:Cl} (h:ClAt Ad Au Ak Ah H o c):∃ C,Gj K H (.ref o) (.ref C)/\zAR K (.ref C) (.ref Ah)=some (Nj c):=by
 obtain⟨dx,e⟩:=h;cases c with
 | own y d=>exact⟨_,L.ty_Own e,L.kt_Own_Limit⟩
 | lay y a b=>exact⟨_,L.ty_Layer e,L.kt_Layer_Limit⟩
 | lim y m=>exact⟨_,L.ty_Limit e,L.kt_Limit_Limit⟩
 | any y=>exact⟨_,L.ty_Clause e,L.kt_Clause_Limit⟩
theorem Zk:Bd ["cover", "counts", "loss", "paid", "k", "clause", "counted"] ["cover", "counts", "loss", "paid"] (Ar Jq):=⟨rfl,rfl,rfl,by decide +kernel,rfl,by decide +kernel,by decide +kernel⟩
theorem Zh {f:Addr} {fd:zCy} (F:Fun K "count_for" "count_for" Jq f fd) (T:Txt K mg) (L:Kl K mg Ab Ag Af Am At Ba Az As Ad Au Ak Ah Bg Aj Bb Ap) (Mkey:Pb P w K mg base 2 (Fam Ad Au Ak Ah) "key" ["self", "loss"] (W0 Ad Au Ak Ah)) (Madd:Hi P w K mg base 2 Ap "add" ["self", "name", "k", "key", "cents"] (FH Ap)) :
  FnOk P w K mg base Da 3 f fd ["cover", "counts", "loss", "paid"] (N2 (A8.mk Ab Ag Af Am At Ba Az As) Ad Au Ak Ah Aj Ap):=by
 have sc:=Zk;refine F.ok sc (fun vs H Q E h=>?_) (fun cdv A outer s H vs Q E hr h=>?_)
 ·obtain⟨_,_,_,_,_,_,_,rfl,_⟩:=h
  rfl
 obtain⟨x,cp,kp,kvs,l,z,pd,rfl,cx,ct,iv,l8,hl,q⟩:=h;refine⟨_,(An (Cj PassesOwn.never rfl (Le rfl T.n_enumerate (Aa (Cs (pv 0) rfl) Ai)) (Ez (n:=2) rfl (Bm (Ay (i:=4) sc.nd rfl (Or.inl rfl)) (Bm (Ay (i:=5) sc.nd rfl (Or.inl rfl)) Di)))
    (Ae (Bh (i:=6) sc.nd rfl (Or.inl rfl) (Ju (Cr (Bo Cw rfl T.n_isinstance (show zCx _=some (.builtin "isinstance") from rfl) (Aa (pv 5) (Aa (JC rfl L.mg_Limit) Ai)))) (pv 3) (Bf Bn (pv 2) (Dg T.g_CENTS rfl) (fun _ _=>rfl))))
   (An (Ct (Du Madd (hr.mono (by decide)) (pv 1) (Aa (Cs (pv 0) rfl) (Aa (pv 4) (Aa (Fp Mkey (hr.mono (by decide)) (pv 5) (Aa (pv 2) Ai)) (Aa (pv 6) Ai)))))))))),?_⟩
 obtain⟨dx,fs,cv,cl,xs,e,a1,a2,a3,a4,a5,a6,hcl,cc,c8⟩:=id cx;have lx:=cc.len;have hk:=ct.hk;have nk:∀ {b:Addr} {o:HO},H b=some o->(∀ m,o ≠ .dT m)->b≠kp:=fun y n=>Eu y hk (n _);refine (vE rfl ⟨x.p,Aj,dx,fs,_,rfl,e,L.cl_Cover,L.na_Cover_clauses,a3,cl,rfl,⟨_,SqL.of hcl⟩,?_⟩);refine Np (K:=K) (a:=cl) (xs:=xs) (fun i σ H2=>(∃ o4 o5 o6,σ=[some (.ref x.p),some (.ref cp),some (.ref l),some (.int pd),o4,o5,o6])/\CtAt Ap H2 cp kp (Ed z x pd kvs i)/\∀ b o,H b=some o->b≠kp->H2 b=some o)
  ⟨⟨none,none,none,rfl⟩,ct,fun _ _ y _=>y⟩ (fun i σ H2 _ hh=>SqL.of (hh.2.2 _ _ hcl (nk hcl (fun _ y=>by cases y)))) ?_ ?_
 ·rintro i v σ H2 t hi ⟨⟨o4,o5,o6,rfl⟩,ct2,kp2⟩ nt
  obtain⟨o,c,hc,rfl,ho⟩:=cc.get hi;have il:i<x.cs.length:=(zAj.mp hc).1;have s3:=Ao nt (.tup [.int i,.ref o]);have k3:∀ {b:Addr} {ob:HO},H b=some ob->(∀ m,ob ≠ .dT m)->upd H2 t (.tup [.int i,.ref o]) b=some ob:=fun y n=>s3 _ _ (kp2 _ _ y (nk y n));have ho3:ClAt Ad Au Ak Ah (upd H2 t (.tup [.int i,.ref o])) o c:=by
   obtain⟨od,y⟩:=ho;exact⟨od,k3 y (fun _ y=>by cases y)⟩
  have e3:=k3 e (fun _ y=>by cases y);have hl3:=k3 hl (fun _ y=>by cases y);have ct3:=ct2.same s3;generalize upd H2 t (.tup [.int i,.ref o])=H3 at s3 ho3 e3 hl3 ct3;obtain⟨CC',ty,kt⟩:=GQ L ho3;obtain⟨od,ho4⟩:=id ho3;obtain⟨⟨dc,fc,hcp,b1,b2,b3⟩,_⟩:=id ct3;obtain⟨n,en⟩:=(Rb (z:=z) (x:=x) (pd:=pd) iv i).have x.nm (i:Int) (Fr c.way z);refine EG (.int (if Nj c=true then pd else z.ct)) (fun Q' kq=>?_) ?_
  ·refine (vE rfl ⟨_,_,_,_,_,rfl,KL,ty,kt,_,rfl,?_⟩)
   cases il':Nj c with
   | true=>
    rw[il'] at kq;exact Kb (vE rfl kq)
   | false=>
    rw[il'] at kq;exact Dj (vE rfl (vI rfl rfl (SqT.of hl3) rfl kq))
  refine LH [some (.ref x.p),some (.ref cp),some (.ref l),some (.int pd),some (.int i),some (.ref o),some (.int (if Nj c=true then pd else z.ct))] rfl ?_;refine (vE rfl ⟨cp,dc,fc,rfl,hcp,b3,_,rfl,x.p,Aj,dx,fs,_,rfl,e3,L.cl_Cover,L.na_Cover_name,a1,_,rfl,vE rfl ⟨o,_,od,_,rfl,ho4,Yx _ _ _ _ c,EW c,_,rfl,o,c,l,z.ev,z.th,z.ca,z.n,z.d,z.ct,rfl,ho3,rfl,hl3,_,rfl,cp,kp,_,x.nm,(i:Int),Fr c.way z,_,n,by rw[DK]; rfl,ct3,en,?_,fun H4 s4=>?_⟩⟩)
  ·have:=Rh (z:=z) (x:=x) (pd:=pd) (kvs:=kvs) i
   lia
  have ec:Ed z x pd kvs (i+1)=Fh (Ed z x pd kvs i) (Iy x.nm (i:Int) (Fr c.way z)) (.int (n+if Nj c=true then pd else z.ct)):=by
   show Fh _ _ _=_;rw[hc];show Fh _ (Iy x.nm (i:Int) (Fr c.way z)) (.int (B9 (Lp (Ed z x pd kvs i) x.nm (i:Int) (Fr c.way z))+_))=_;rw[en];rfl
  refine⟨⟨_,_,_,rfl⟩,?_,fun b ob y nb=>?_⟩
  ·rw[ec]
   exact (ct3.same s4).put _
  ·rw[Aw nb]
   exact s4 _ _ (s3 _ _ (kp2 b ob y nb))
 ·rintro σ H2 ⟨⟨o4,o5,o6,rfl⟩,ct2,kp2⟩
  rw[lx] at ct2;exact q H2 kp2 ct2
end
def S0 (H H':Hp):Prop:=∀ b o,H b=some o->(∀ m,o≠HO.dT m)->H' b=some o
theorem E4 {H H':Hp} {kp:Addr} {m:Ii} (hk:H kp=some (.dT m)) (k:∀ b o,H b=some o->b≠kp->H' b=some o):S0 H H':=fun b o h n=>k b o h (Eu h hk (n _))
mutual
theorem CdAt.kd {κ:A8} {H H':Hp} (s:S0 H H'):∀ {v:V} (t:Gc),CdAt κ H v t->CdAt κ H' v t
 | v,.at c,h=>by
  unfold CdAt at h ⊢;obtain⟨p,dx,e,h⟩:=h;exact⟨p,dx,e,s _ _ h (fun _ y=>by cases y)⟩
 | v,.no t,h=>by
  unfold CdAt at h ⊢;obtain⟨p,dx,w,e,h,r⟩:=h;exact⟨p,dx,w,e,s _ _ h (fun _ y=>by cases y),CdAt.kd s t r⟩
 | v,.al ts,h=>by
  unfold CdAt at h ⊢;obtain⟨p,dx,l,vs,e,h,g,r⟩:=h;exact⟨p,dx,l,vs,e,s _ _ h (fun _ y=>by cases y),s _ _ g (fun _ y=>by cases y),CdsAt.kd s ts r⟩
 | v,.so ts,h=>by
  unfold CdAt at h ⊢;obtain⟨p,dx,l,vs,e,h,g,r⟩:=h;exact⟨p,dx,l,vs,e,s _ _ h (fun _ y=>by cases y),s _ _ g (fun _ y=>by cases y),CdsAt.kd s ts r⟩
theorem CdsAt.kd {κ:A8} {H H':Hp} (s:S0 H H'):∀ {vs:List V} (ts:List Gc),CdsAt κ H vs ts->CdsAt κ H' vs ts
 | [],[],_=>by unfold CdsAt; trivial
 | v::vs,t::ts,h=>by
  unfold CdsAt at h ⊢;exact⟨CdAt.kd s t h.1,CdsAt.kd s ts h.2⟩
 | [],_::_,h=>by unfold CdsAt at h; exact h.elim
 | _::_,[],h=>by unfold CdsAt at h; exact h.elim
end
theorem CvxAt.kd {κ:A8} {CC CO CL CM C:Addr} {H H':Hp} {x:Cvx} (h:CvxAt κ CC CO CL CM C H x) (s:S0 H H'):CvxAt κ CC CO CL CM C H' x:=by
 obtain⟨dx,fs,cv,cl,xs,e,a1,a2,a3,a4,a5,a6,a7,a8,a9⟩:=h;exact⟨dx,fs,cv,cl,xs,s _ _ e (fun _ y=>by cases y),a1,a2,a3,a4,a5,CdAt.kd s _ a6,s _ _ a7 (fun _ y=>by cases y),a8.mono (fun t _ _ _ y=>s _ _ y (fun _ y=>by cases y)),a9⟩
def Eh (z:LF) (S:List Rp):List Cvx->Ii->Ii
 | [],k=>k
 | x::xs,k=>Eh z S xs (Ed z x (Cz x.nm S).sum k x.cs.length)
theorem Ly (z:LF) (S:List Rp) (x:Cvx):∀ (xs:List Cvx) (k:Ii),Eh z S (xs++[x]) k=Ed z x (Cz x.nm S).sum (Eh z S xs k) x.cs.length
 | [],k=>rfl
 | y::xs,k=>by
  rw[zCt];exact Ly z S x xs _
theorem Lb {z:LF} {S:List Rp}:∀ {xs:List Cvx} {k:Ii},IntV k->IntV (Eh z S xs k)
 | [],_,h=>h
 | x::xs,k,h=>Lb (xs:=xs) (Rb h _)
theorem Ky {z:LF} {S:List Rp}:∀ {xs:List Cvx} {k:Ii},(∀ x∈xs,x.cs.length<=8)->(Eh z S xs k).length<=k.length+8*xs.length
 | [],k,_=>zAl _
 | x::xs,k,h=>by
  have h1:=Ky (z:=z) (S:=S) (xs:=xs) (k:=Ed z x (Cz x.nm S).sum k x.cs.length) fun y hy=>h y (zAd _ hy);have h2:=Rh (z:=z) (x:=x) (pd:=(Cz x.nm S).sum) (kvs:=k) x.cs.length;have h3:=h x zAk;show (Eh z S xs _).length<=_;rw[zAg]
  lia
def Sz (κ:A8) (CC CO CL CM C CB CN:Addr):Sp:=fun vs H Q _=>∃ b cp kp kvs l z bs,vs=[.ref b,.ref cp,.ref l]/\AskAt κ CC CO CL CM C CB H b bs/\(∀ x∈bs,Mv x.t<4)/\bs.length<=8/\(bs.map (·.nm)).Nodup/\CtAt CN H cp kp kvs/\IntV kvs/\kvs.length<=700/\H l=some (.tup (LF.vs z))/\0<z.ct /\
 ∀ r ys S H',(∀ b o,H b=some o->b≠kp->H' b=some o)->H r=none->H' r=some (.lst ys)->Sts H' ys S->Ic kvs z (Dy z bs) S->S.length<64->CtAt CN H' cp kp (Eh z S (Dy z bs) kvs)->Q (.ref r) H'
section
variable {P:Program} {w:World} {K:zAa} {mg:Str->Option Value} {base:Heap} {Ab Ag Af Am At Ba Az As Ad Au Ak Ah Bg Aj Bb Ap:Addr}
theorem Y8:Bd ["book", "counts", "loss", "strips", "cover"] ["book", "counts", "loss"] (Ar Sm):=⟨rfl,rfl,rfl,by decide +kernel,rfl,by decide +kernel,by decide +kernel⟩
theorem AS {f:Addr} {fd:zCy} (F:Fun K "settle" "settle" Sm f fd) (T:Txt K mg) (L:Kl K mg Ab Ag Af Am At Ba Az As Ad Au Ak Ah Bg Aj Bb Ap) (Casked_of:Cp P w K mg base 6 "asked_of" ["book", "loss"] (Rg (A8.mk Ab Ag Af Am At Ba Az As) Ad Au Ak Ah Aj Bb 4)) (Cstrips_of:Cp P w K mg base 7 "strips_of" ["book", "counts", "loss"] (Sy (A8.mk Ab Ag Af Am At Ba Az As) Ad Au Ak Ah Aj Bb Ap))
  (Cpaid_by:Cp P w K mg base 1 "paid_by" ["name", "strips"] LE) (Ccount_for:Cp P w K mg base 3 "count_for" ["cover", "counts", "loss", "paid"] (N2 (A8.mk Ab Ag Af Am At Ba Az As) Ad Au Ak Ah Aj Ap)) :
  FnOk P w K mg base Da 8 f fd ["book", "counts", "loss"] (Sz (A8.mk Ab Ag Af Am At Ba Az As) Ad Au Ak Ah Aj Bb Ap):=by
 have sc:=Y8;refine F.ok sc (fun vs H Q E h=>?_) (fun cdv A outer s H vs Q E hr h=>?_)
 ·obtain⟨_,_,_,_,_,_,_,rfl,_⟩:=h
  rfl
 obtain⟨b,cp,kp,kvs,l,z,bs,rfl,ask,hm,l8,nd,ct,iv,l7,hl,c0,q⟩:=h;refine⟨_,(Ae (Bh (i:=3) sc.nd rfl (Or.inl rfl) (Ax Cstrips_of (hr.mono (by decide)) rfl (Aa (pv 0) (Aa (pv 1) (Aa (pv 2) Ai)))))
   (Ae (Cj PassesOwn.never rfl (Bs (Ax Casked_of (hr.mono (by decide)) rfl (Aa (pv 0) (Aa (pv 2) Ai)))) (Ay (i:=4) sc.nd rfl (Or.inl rfl))
    (An (Ct (Ax Ccount_for (hr.mono (by decide)) rfl (Aa (pv 4) (Aa (pv 1) (Aa (pv 2) (Aa (Ax Cpaid_by (hr.mono (by decide)) rfl (Aa (Cs (pv 4) rfl) (Aa (pv 3) Ai))) Ai))))))))
   (An (Bc (pv 3))))),?_⟩
 refine (vE rfl (vE rfl (vE rfl ⟨b,cp,kp,kvs,l,z,bs,rfl,ask,hm,l8,nd,ct,iv,hl,c0,fun r ys S H1 s1 nr hr1 sts so l64=>?_⟩)));refine Dz [some (.ref b),some (.ref cp),some (.ref l),some (.ref r),none] rfl ?_;obtain⟨d0,f0,ak0,eb,eb1,eb2,all⟩:=ask;refine (vE rfl (vE rfl ⟨b,l,bs,z,rfl,⟨d0,f0,ak0,s1 _ _ eb,eb1,s1 _ _ eb2,fun x hx=>(all x hx).same s1⟩,hm,by lia,s1 _ _ hl,fun ak H2 s2 nak hak=>?_⟩));have S2:=s1.trans s2;have sub:∀ x∈Dy z bs,x∈bs:=fun x hx=>(zAT.mp hx).1;have la:(Dy z bs).length<=8:=zAE (zAG _ _) l8;have all2:∀ x∈Dy z bs,CvxAt (A8.mk Ab Ag Af Am At Ba Az As) Ad Au Ak Ah Aj H2 x:=fun x hx=>(all x (sub x hx)).same S2;have ct2:=ct.same S2;have hk2:=ct2.hk;have hl2:=S2 _ _ hl;have hr2:=s2 _ _ hr1;have sts2:=sts.mono (Bq s2);generalize Dy z bs=as at hak la all2 so q;have c8:∀ x∈as,x.cs.length<=8:=fun x hx=>by
  obtain⟨_,_,_,_,_,_,_,_,_,_,_,_,_,_,y⟩:=all2 x hx;exact y
 refine⟨ak,rfl,⟨_,SqL.of hak⟩,?_⟩;refine Cy (K:=K) (a:=ak) (xs:=as.map xV) (fun i σ H4=>(∃ o,σ=[some (.ref b),some (.ref cp),some (.ref l),some (.ref r),o])/\CtAt Ap H4 cp kp (Eh z S (as.take i) kvs)/\(∀ b o,H2 b=some o->b≠kp->H4 b=some o))
  ⟨⟨none,rfl⟩,ct2,fun _ _ y _=>y⟩ (fun i σ H4 _ hh=>SqL.of (hh.2.2 _ _ hak (Eu hak hk2 (by intro y; cases y)))) ?_ ?_
 ·rintro i y σ H4 hi ⟨⟨o,rfl⟩,ct4,kp4⟩
  rw[zAs] at hi;obtain⟨x,hx,rfl⟩:=zAI.mp hi;have mx:=zAB hx;have GG:=E4 hk2 kp4;have cx:=(all2 x mx).kd GG;obtain⟨dx,fs,_,_,_,e,a1,_⟩:=id cx;have hr4:=GG _ _ hr2 (fun _ y=>by cases y);have sts4:=sts2.mono fun t ws y=>GG _ _ y (fun _ y=>by cases y);refine (vE rfl (vE rfl (vE rfl (vE rfl ⟨x.p,Aj,dx,fs,_,rfl,e,L.cl_Cover,L.na_Cover_name,a1,_,rfl,x.nm,r,ys,S,rfl,hr4,sts4,by lia,fun H5 s5=>⟨x,cp,kp,_,l,z,_,rfl,cx.same s5,ct4.same s5,Lb iv,?_,s5 _ _ (GG _ _ hl2 (fun _ y=>by cases y)),fun H6 k6 ct6=>?_⟩⟩))))
  ·have:=Ky (z:=z) (S:=S) (xs:=as.take i) (k:=kvs) fun x hx=>c8 x (List.mem_of_mem_take hx)
   have:(as.take i).length<=8:=by rw[zAt]; lia
   lia
  ·refine⟨⟨_,rfl⟩,?_,fun b o y n=>k6 _ _ (s5 _ _ (kp4 b o y n)) n⟩
   rw[Bu hx,Ly];exact ct6
 ·rintro σ H4 ⟨⟨o,rfl⟩,ct4,kp4⟩
  rw[zAb,zAw] at ct4;have GG:=E4 hk2 kp4;exact (vE rfl (q r ys S H4 (fun b o y n=>kp4 _ _ (S2 _ _ y) n) nr (GG _ _ hr2 (fun _ y=>by cases y)) (sts2.mono fun t ws y=>GG _ _ y (fun _ y=>by cases y)) so l64 ct4))
end
def Jy (u:Int):Prop:=1<=u/\u<=10000000019
def V5:Sp:=fun vs H Q _=>∃ d u:Int,vs=[.int d,.int u]/\0<=d/\Jy u/\∀ m:Int,0<=m->m<=120000000230->Q (.int m) H
def L3 (K:zAa):Sp:=fun vs H Q _=>∃ a ns,vs=[.ref a]/\SqL K H a (List.map V.int ns)/\ns.length<=63/\∀ u H',Same H H'->Jy u->Q (.int u) H'
def Q5:Sp:=fun vs H Q _=>∃ y l z,vs=[.str y,.ref l]/\H l=some (.tup (LF.vs z))/\Q (kV (Fr y z)) H
theorem QC:(10:Int)^(10:Int).toNat=10000000000:=by decide +kernel
section
seal L2.PS L2.PSs L2.PE L2.PA
variable {P:Program} {w:World} {K:zAa} {mg:Str->Option Value} {base:Heap}
theorem Tf:Bd ["_law_digit", "_law_unit_here"] ["_law_digit", "_law_unit_here"] (Ar Ho):=⟨rfl,rfl,rfl,by decide +kernel,rfl,by decide +kernel,by decide +kernel⟩
theorem Sa {f:Addr} {fd:zCy} (F:Fun K "_law_amount" "_law_amount" Ho f fd) (T:Txt K mg):FnOk P w K mg base Da 1 f fd ["_law_digit", "_law_unit_here"] V5:=by
 have sc:=Tf;refine F.ok sc (fun vs H Q E h=>?_) (fun cdv A outer s H vs Q E hr h=>?_)
 ·obtain⟨_,_,rfl,_⟩:=h
  rfl
 obtain⟨d,u,rfl,d0,⟨u1,u2⟩,q⟩:=h;refine⟨_,(An (Bc (Be Cq (Be Fl (Be Cb (pv 0) Al) (pv 1)) (Be Cb (Be Ca (pv 0) Al) Al)))),?_⟩;refine (vE rfl (vF rfl rfl ⟨(by show (0:Int)<13; decide),_,rfl,vF rfl rfl ⟨.inr ⟨by lia,by lia⟩,vE rfl (vF rfl rfl ⟨⟨by decide,by decide⟩,_,_,rfl,rfl,(by show (0:Int)<3; decide),_,_,rfl,rfl,?_⟩)⟩⟩));have m1:=md (a:=d) (b:=13) (by decide);have m2:=md (a:=d/13) (b:=3) (by decide);have p0:0<=d%13*u:=Int.mul_nonneg m1.1 (by lia);have p1:d%13*u<=12*10000000019:=Int.mul_le_mul (by lia) u2 (by lia) (by decide);exact q _ (by lia) (by lia)
theorem Zq:Bd ["_law_script"] ["_law_script"] (Ar Ki):=⟨rfl,rfl,rfl,by decide +kernel,rfl,by decide +kernel,by decide +kernel⟩
theorem Xh {f:Addr} {fd:zCy} (F:Fun K "_law_unit" "_law_unit" Ki f fd) (T:Txt K mg) (C_law_cell:Cp P w K mg base 1 "_law_cell" ["_law_script", "_law_k"] (Ts K)) (C_law_spread:Cp P w K mg base 1 "_law_spread" ["_law_cell_here"] Jr):FnOk P w K mg base Da 2 f fd ["_law_script"] (L3 K):=by
 have sc:=Zq;refine F.ok sc (fun vs H Q E h=>?_) (fun cdv A outer s H vs Q E hr h=>?_)
 ·obtain⟨_,_,rfl,_⟩:=h
  rfl
 obtain⟨a,ns,rfl,ha,l63,q⟩:=h;refine⟨_,(An (Bc (Bf Bp (Ce (Aa Al (Aa Al (Aa Al (Aa Al (Aa (Be Cq (Be Yu Al Al) Al) Ai)))))) (Be Cb (Ax C_law_spread (hr.mono (by decide)) rfl (Aa (Ax C_law_cell (hr.mono (by decide)) rfl (Aa (pv 0) (Aa Al Ai))) Ai)) Al) (fun _ _=>rfl)))),?_⟩;refine (vF rfl rfl ⟨⟨by decide,by decide,by decide⟩,_,_,rfl,rfl,By (by show 5<=1000; decide),fun l nl=>?_⟩);have s1:=Ao nl (.lst [V.int 1,.int 1,.int 97,.int 1000,.int ((10:Int)^(10:Int).toNat+19)]);refine (vE rfl ⟨a,ns,0,rfl,s1.seq ha,by lia,l63,vE rfl (fun r r0 r1=>(vF rfl rfl ⟨(by show (0:Int)<5; decide),?_⟩))⟩);have m:=md (a:=r) (b:=5) (by decide);have five:r%5=0\/r%5=1\/r%5=2\/r%5=3\/r%5=4:=by lia
 obtain⟨u,hu,uo⟩:∃ u:Int,Of [V.int 1,.int 1,.int 97,.int 1000,.int ((10:Int)^(10:Int).toNat+19)] (r%5)=some (.int u)/\Jy u:=by
  rcases five with e | e | e | e | e <;> rw[e]
  ·exact⟨1,rfl,by decide,by decide⟩
  ·exact⟨1,rfl,by decide,by decide⟩
  ·exact⟨97,rfl,by decide,by decide⟩
  ·exact⟨1000,rfl,by decide,by decide⟩
  ·exact⟨(10:Int)^(10:Int).toNat+19,rfl,by rw[QC]; decide,by rw[QC]; decide⟩
 exact (vI rfl rfl (SqL.of Ac) hu (q u _ s1 uo))
theorem E9:Bd ["_law_by", "_law_loss_here"] ["_law_by", "_law_loss_here"] (Ar Ms):=⟨rfl,rfl,rfl,by decide +kernel,rfl,by decide +kernel,by decide +kernel⟩
theorem F0 {f:Addr} {fd:zCy} (F:Fun K "_law_key" "_law_key" Ms f fd) (T:Txt K mg):FnOk P w K mg base Da 1 f fd ["_law_by", "_law_loss_here"] Q5:=by
 have sc:=E9;refine F.ok sc (fun vs H Q E h=>?_) (fun cdv A outer s H vs Q E hr h=>?_)
 ·obtain⟨_,_,_,rfl,_⟩:=h
  rfl
 obtain⟨y,l,z,rfl,hl,q⟩:=h;refine⟨_,(Ae (Bt (Bi Cf (pv 0) Br (Bl _))
    (An (Bc (Bf Bn (pv 1) Al (fun _ _=>rfl))))
    Bk)
   (Ae (Bt (Bi Cf (pv 0) Br (Bl _))
    (An (Bc (Bf Bn (pv 1) Al (fun _ _=>rfl))))
    Bk)
   (Ae (Bt (Bi Cf (pv 0) Br (Bl _))
    (An (Bc (Be Ca (Bf Bn (pv 1) Al (fun _ _=>rfl)) Al)))
    Bk)
   (An (Bc (Bf Bn (pv 1) Al (fun _ _=>rfl))))))),?_⟩
 unfold Fr at q;refine (vE rfl ⟨rfl,vE rfl ?_⟩);by_cases c1:y = "event"
 ·rw[if_pos c1] at q
  exact dT (congrArg V.str c1) (vE rfl (vI rfl rfl (SqT.of hl) rfl q))
 rw[if_neg c1] at q;refine dF (fun e=>c1 (V.str.inj e)) (vE rfl ⟨rfl,vE rfl ?_⟩);by_cases c2:y = "thing"
 ·rw[if_pos c2] at q
  exact dT (congrArg V.str c2) (vE rfl (vI rfl rfl (SqT.of hl) rfl q))
 rw[if_neg c2] at q;refine dF (fun e=>c2 (V.str.inj e)) (vE rfl ⟨rfl,vE rfl ?_⟩);by_cases c3:y = "year"
 ·rw[if_pos c3] at q
  exact dT (congrArg V.str c3) (vE rfl (vI rfl rfl (SqT.of hl) rfl (vF rfl rfl ⟨⟨by decide,by decide⟩,q⟩)))
 rw[if_neg c3] at q;exact dF (fun e=>c3 (V.str.inj e)) (vE rfl (vI rfl rfl (SqT.of hl) rfl q))
end
abbrev EQ:=Str×Str×Int×Int
def IC (r:EQ):List V:=[.str r.1,.str r.2.1,.int r.2.2.1,.int r.2.2.2]
def LK (r:EQ):Prop:=(r.1 = "own" \/ r.1 = "layer" \/ r.1 = "limit")/\Su r.2.1/\(0<=r.2.2.1/\r.2.2.1<=120000000230)/\(r.1 = "layer" -> r.2.2.1<r.2.2.2/\r.2.2.2<=240000000461)
def Dw (r:EQ):Cl:=if r.1 = "own" then .own r.2.1 r.2.2.1 else if r.1 = "layer" then .lay r.2.1 r.2.2.1 r.2.2.2 else .lim r.2.1 r.2.2.1
def LB:Sp:=fun vs H Q _=>∃ c u:Int,vs=[.int c,.int u]/\0<=c/\Jy u/\∀ t r H',Same H H'->H t=none->H' t=some (.tup (IC r))->LK r->Q (.ref t) H'
def WorldAt (H:Hp) (w:Addr) (A B C D:List Str):Prop:=∃ a b c d,H w=some (.lst [.ref a,.ref b,.ref c,.ref d])/\H a=some (.lst (A.map V.str))/\H b=some (.lst (B.map V.str))/\H c=some (.lst (C.map V.str))/\H d=some (.lst (D.map V.str))
structure NK (A B C D:List Str):Prop where
 a:FP A
 b:FP B
 c:FP C
 d:FP D
 la:A.length=3
 lb:B.length=3
 lc:C.length=3
 ld:D.length<=5
def Zm (K:zAa):Sp:=fun vs H Q _=>∃ a ns,vs=[.ref a,.int 5]/\SqL K H a (List.map V.int ns)/\ns.length<=63/\∀ w A B C D H',Same H H'->WorldAt H' w A B C D->NK A B C D->Q (.ref w) H'
section
seal L2.PS L2.PSs L2.PE L2.PA
variable {P:Program} {w:World} {K:zAa} {mg:Str->Option Value} {base:Heap}
theorem Ka:Bd ["_law_cell_here", "_law_unit_here", "_law_by", "_law_low", "_law_way"] ["_law_cell_here", "_law_unit_here"] (Ar Eg):=⟨rfl,rfl,rfl,by decide +kernel,rfl,by decide +kernel,by decide +kernel⟩
theorem Kj {f:Addr} {fd:zCy} (F:Fun K "_law_drawn_clause" "_law_drawn_clause" Eg f fd) (T:Txt K mg) (C_law_amount:Cp P w K mg base 1 "_law_amount" ["_law_digit", "_law_unit_here"] V5):FnOk P w K mg base Da 2 f fd ["_law_cell_here", "_law_unit_here"] LB:=by
 have sc:=Ka;refine F.ok sc (fun vs H Q E h=>?_) (fun cdv A outer s H vs Q E hr h=>?_)
 ·obtain⟨_,_,rfl,_⟩:=h
  rfl
 obtain⟨c,u,rfl,c0,uo,q⟩:=h;refine⟨_,(Ae (Bh (i:=2) sc.nd rfl (Or.inl rfl) (Bf Bp (Ce (Aa Br (Aa Br (Aa Br (Aa Br Ai))))) (Be Cb (pv 0) Al) (fun _ _=>rfl)))
   (Ae (Bh (i:=3) sc.nd rfl (Or.inl rfl) (Ax C_law_amount (hr.mono (by decide)) rfl (Aa (Be Cb (Be Ca (pv 0) Al) Al) (Aa (pv 1) Ai))))
   (Ae (Bh (i:=4) sc.nd rfl (Or.inl rfl) (Be Cb (Be Ca (pv 0) Al) Al))
   (Ae (Bt (Bi Gx (pv 4) Al (Bl _))
    (An (Bc (Cc (Aa Br (Aa (pv 2) (Aa (Be Ca (pv 3) Al) (Aa Al Ai)))))))
    Bk)
   (Ae (Bt (Bi Cf (pv 4) Al (Bl _))
    (An (Bc (Cc (Aa Br (Aa (pv 2) (Aa (pv 3) (Aa (Be Cq (Be Cq (pv 3) Al) (Ax C_law_amount (hr.mono (by decide)) rfl (Aa (Be Cb (Be Ca (pv 0) Al) Al) (Aa (pv 1) Ai)))) Ai)))))))
    Bk)
   (An (Bc (Cc (Aa Br (Aa (pv 2) (Aa (pv 3) (Aa Al Ai)))))))))))),?_⟩
 have four:4<=sizeLine:=by rw[zCw]; decide
 refine⟨four,fun l nl=>?_⟩;have m4:=md (a:=c) (b:=4) (by decide);have f4:c%4=0\/c%4=1\/c%4=2\/c%4=3:=by lia
 obtain⟨y,hy,wy⟩:∃ y:Str,Of [V.str "event",.str "thing",.str "year",.str "loss"] (c%4)=some (.str y)/\Su y:=by
  rcases f4 with e | e | e | e <;> rw[e]
  ·exact (vE rfl (.inl rfl))
  ·exact (vE rfl (.inr (.inl rfl)))
  ·exact (vE rfl (.inr (.inr (.inl rfl))))
  ·exact (vE rfl (.inr (.inr (.inr rfl))))
 refine (vE rfl (vF rfl rfl ⟨(by show (0:Int)<4; decide),vI rfl rfl (SqL.of Ac) hy ?_⟩));have s1:=Ao nl (.lst [V.str "event",.str "thing",.str "year",.str "loss"]);refine Dz [some (.int c),some (.int u),some (.str y),none,none] rfl ?_;have d20:=md (a:=c/20) (b:=39) (by decide);refine (vE rfl (vF rfl rfl ⟨⟨by decide,by decide⟩,_,_,rfl,rfl,(by show (0:Int)<39; decide),_,rfl,_,u,rfl,d20.1,uo,fun m m0 m1=>?_⟩));refine Dz [some (.int c),some (.int u),some (.str y),some (.int m),none] rfl ?_;refine (vE rfl (vF rfl rfl ⟨⟨by decide,by decide⟩,_,_,rfl,rfl,(by show (0:Int)<5; decide),?_⟩));refine Px 0 4 (md (by decide)) fun way w0 w4=>?_;refine (vE rfl (vF rfl rfl (vE rfl ?_)));by_cases c1:way<2
 ·refine dT c1 (vE rfl (vE rfl (vF rfl rfl ⟨⟨by decide,by decide⟩,four,fun t nt=>?_⟩)))
  exact q t ("own",y,m/2,0) _ (s1.trans (Ao nt _)) (s1.free nt) Ac ⟨.inl rfl,wy,⟨by show 0<=m/2; lia,by show m/2<=_; lia⟩,fun z=>absurd (show Str.ofString "own" = Str.ofString "layer" from z) (by decide +kernel)⟩
 refine dF c1 (vE rfl ⟨rfl,vE rfl ?_⟩);by_cases c2:way=2
 ·have d78:=md (a:=c/780) (b:=39) (by decide)
  refine dT (congrArg V.int c2) (vE rfl (vE rfl (vE rfl (vF rfl rfl (vE rfl (vF rfl rfl ⟨⟨by decide,by decide⟩,_,_,rfl,rfl,(by show (0:Int)<39; decide),_,rfl,_,u,rfl,d78.1,uo,fun m' m0' m1'=>(vF rfl rfl ⟨four,fun t nt=>?_⟩)⟩))))));exact q t ("layer",y,m,m+1+m') _ (s1.trans (Ao nt _)) (s1.free nt) Ac ⟨.inr (.inl rfl),wy,⟨m0,m1⟩,fun _=>⟨by show m<m+1+m'; lia,by show m+1+m'<=_; lia⟩⟩
 ·refine dF (fun e=>c2 (V.int.inj e)) (vE rfl (vE rfl ⟨four,fun t nt=>?_⟩))
  exact q t ("limit",y,m,0) _ (s1.trans (Ao nt _)) (s1.free nt) Ac ⟨.inr (.inr rfl),wy,⟨m0,m1⟩,fun z=>absurd (show Str.ofString "limit" = Str.ofString "layer" from z) (by decide +kernel)⟩
theorem Ut:Bd ["_law_script", "_law_most", "_law_cell_here", "_law_many"] ["_law_script", "_law_most"] (Ar Ij):=⟨rfl,rfl,rfl,by decide +kernel,rfl,by decide +kernel,by decide +kernel⟩
theorem Uk {f:Addr} {fd:zCy} (F:Fun K "_law_world" "_law_world" Ij f fd) (T:Txt K mg) (C_law_cell:Cp P w K mg base 1 "_law_cell" ["_law_script", "_law_k"] (Ts K)) (C_law_spread:Cp P w K mg base 1 "_law_spread" ["_law_cell_here"] Jr) (C_law_names:Cp P w K mg base 1 "_law_names" ["_law_cell_here", "_law_many"] Xy):FnOk P w K mg base Da 2 f fd ["_law_script", "_law_most"] (Zm K):=by
 have sc:=Ut;refine F.ok sc (fun vs H Q E h=>?_) (fun cdv A outer s H vs Q E hr h=>?_)
 ·obtain⟨_,_,rfl,_⟩:=h
  rfl
 obtain⟨a,ns,rfl,ha,l63,q⟩:=h;refine⟨_,(Ae (Bh (i:=2) sc.nd rfl (Or.inl rfl) (Ax C_law_spread (hr.mono (by decide)) rfl (Aa (Ax C_law_cell (hr.mono (by decide)) rfl (Aa (pv 0) (Aa Al Ai))) Ai)))
   (Ae (Bh (i:=3) sc.nd rfl (Or.inl rfl) (Be Cb (Be Ca (Ax C_law_spread (hr.mono (by decide)) rfl (Aa (Ax C_law_cell (hr.mono (by decide)) rfl (Aa (pv 0) (Aa Al Ai))) Ai)) Al) (Be Cq (pv 1) Al)))
   (An (Bc (Ce (Aa (Ax C_law_names (hr.mono (by decide)) rfl (Aa (Be Ca (pv 2) Al) (Aa Al Ai))) (Aa (Ax C_law_names (hr.mono (by decide)) rfl (Aa (Be Ca (pv 2) Al) (Aa Al Ai))) (Aa (Ax C_law_names (hr.mono (by decide)) rfl (Aa (Be Ca (pv 2) Al) (Aa Al Ai))) (Aa (Ax C_law_names (hr.mono (by decide)) rfl (Aa (pv 2) (Aa (pv 3) Ai))) Ai))))))))),?_⟩
 refine (vE rfl ⟨a,ns,1,rfl,ha,by lia,l63,vE rfl (fun r r0 r1=>?_)⟩);refine Dz [some (.ref a),some (.int 5),some (.int r),none] rfl ?_;refine (vE rfl ⟨a,ns,0,rfl,ha,by lia,l63,vE rfl (fun r2 r20 r21=>(vF rfl rfl ⟨⟨by decide,by decide⟩,_,rfl,vF rfl rfl (vF rfl rfl ⟨(by show (0:Int)<5+1; decide),?_⟩)⟩))⟩);refine Px 0 5 (md (b:=6) (by decide)) fun many n0 n5=>?_;refine (vE rfl (vF rfl rfl ⟨⟨by decide,by decide⟩,_,3,rfl,by lia,by decide,by decide,fun a1 A H1 s1 na1 ha1 NA lA=>?_⟩));refine (vE rfl (vF rfl rfl ⟨⟨by decide,by decide⟩,_,3,rfl,by lia,by decide,by decide,fun b1 B H2 s2 nb1 hb1 NB lB=>?_⟩));refine (vE rfl (vF rfl rfl ⟨⟨by decide,by decide⟩,_,3,rfl,by lia,by decide,by decide,fun c1 C H3 s3 nc1 hc1 NC lC=>?_⟩));refine (vE rfl (vE rfl ⟨r,many,rfl,r0,n0,by lia,fun d1 D H4 s4 nd1 hd1 ND lD=>⟨By (by show 4<=1000; decide),fun wl nwl=>?_⟩⟩));have s5:=Ao nwl (.lst [V.ref a1,.ref b1,.ref c1,.ref d1]);exact q wl A B C D _ (s1.trans (s2.trans (s3.trans (s4.trans s5)))) ⟨a1,b1,c1,d1,Ac,s5 _ _ (s4 _ _ (s3 _ _ (s2 _ _ ha1))),s5 _ _ (s4 _ _ (s3 _ _ hb1)),s5 _ _ (s4 _ _ hc1),s5 _ _ hd1⟩ ⟨NA,NB,NC,ND,by lia,by lia,by lia,by lia⟩
def N5 (n:Str):Prop:=∃ l,n=tx l/\Ru l
def Ox:Co->Prop
 | .alw=>True
 | .cau n=>N5 n
 | .thi n=>N5 n
 | .day a b=>0<=a/\a<=b/\b<=1000000
 | .ovr m=>0<=m/\m<=999999999999
theorem Ew {H H':Hp} {p:Addr} {o:HO} (h:H p=none) (s:Same H H'):Same H (upd H' p o):=fun b u e=>by rw[Aw (Aq e h)]; exact s _ _ e
theorem Rt {H:Hp} {y d:Addr} {o1 o2:HO} (hy:H y=none) (hd:H d=none):Same H (upd (upd H d o1) y o2):=fun b o e=>by rw[Aw (Aq e hy),Aw (Aq e hd)]; exact e
theorem Gh {H:Hp} {y d:Addr} {o1 o2 o3:HO} (hy:H y=none) (hd:H d=none):Same H (upd (upd (upd H d o1) y o2) y o3):=fun b o e=>by rw[Aw (Aq e hy),Aw (Aq e hy),Aw (Aq e hd)]; exact e
def Off (p:Addr) (H:Hp):Hp:=fun b=>if b=p then none else H b
theorem Off.at {p b:Addr} {H:Hp} {o:HO} (h:Off p H b=some o):b≠p/\H b=some o:=by
 unfold Off at h;by_cases e:b=p
 ·rw[if_pos e] at h; cases h
 ·rw[if_neg e] at h; exact⟨e,h⟩
theorem Off.of {p b:Addr} {H:Hp} {o:HO} (n:b≠p) (h:H b=some o):Off p H b=some o:=by
 unfold Off;rw[if_neg n]; exact h
def FW (m:Nat):Sp:=fun vs H Q _=>∃ v t l x,vs=[v,.ref l]/\TrAt H v t/\Mv t<m/\Ls Ox t/\JS H l x/\∀ H',Same H H'->Q (.bl (hT t x)) H'
theorem Vg:Bd ["_law_cond_here", "_law_loss_here"] ["_law_cond_here", "_law_loss_here"] (Ar Im):=⟨rfl,rfl,rfl,by decide +kernel,rfl,by decide +kernel,by decide +kernel⟩
theorem Uo {f:Addr} {fd:zCy} (F:Fun K "_law_holds" "_law_holds" Im f fd) {m:Nat} (C_law_holds:Cp P w K mg base m "_law_holds" ["_law_cond_here", "_law_loss_here"] (FW m)):FnOk P w K mg base Da (m+1) f fd ["_law_cond_here", "_law_loss_here"] (FW (m+1)):=by
 have sc:=Vg;refine F.ok sc (fun vs H Q E h=>?_) (fun cdv A outer s H vs Q E hr h=>?_)
 ·obtain⟨_,_,_,_,rfl,_⟩:=h
  rfl
 obtain⟨v,t,l,x,rfl,tr,hg,ok,⟨evt,nn,hl⟩,q⟩:=h;refine⟨_,(Ae (Bt (Bi Cf (Bf Bn (pv 0) Al (fun _ _=>rfl)) Br (Bl _))
    (An (Bc (Dq Cf (Bf Bn (pv 1) Al (fun _ _=>rfl)) (Bf Bn (pv 0) Al (fun _ _=>rfl)) (Bl _))))
    Bk)
   (Ae (Bt (Bi Cf (Bf Bn (pv 0) Al (fun _ _=>rfl)) Br (Bl _))
    (An (Bc (Dq Cf (Bf Bn (pv 1) Al (fun _ _=>rfl)) (Bf Bn (pv 0) Al (fun _ _=>rfl)) (Bl _))))
    Bk)
   (Ae (Bt (Bi Cf (Bf Bn (pv 0) Al (fun _ _=>rfl)) Br (Bl _))
    (An (Bc (Nk Lr Lr (Bf Bn (pv 0) Al (fun _ _=>rfl)) (Bf Bn (pv 1) Al (fun _ _=>rfl)) (Bf Bn (pv 0) Al (fun _ _=>rfl)))))
    Bk)
   (Ae (Bt (Bi Cf (Bf Bn (pv 0) Al (fun _ _=>rfl)) Br (Bl _))
    (An (Bc (Dq Ty (Bf Bn (pv 1) Al (fun _ _=>rfl)) (Bf Bn (pv 0) Al (fun _ _=>rfl)) (Bl _))))
    Bk)
   (Ae (Bt (Bi Cf (Bf Bn (pv 0) Al (fun _ _=>rfl)) Br (Bl _))
    (An (Bc (Xw (Ax C_law_holds (hr.mono (by lia)) rfl (Aa (Bf Bn (pv 0) Al (fun _ _=>rfl)) (Aa (pv 1) Ai))))))
    Bk)
   (Ae (Bt (Bi Cf (Bf Bn (pv 0) Al (fun _ _=>rfl)) Br (Bl _))
    (An (Bc (Dq Nh Ee (Cn (NC:=["_law_part", "_law_loss_here"]) (own:=["_law_part"]) (cs:=["_law_loss_here"]) (ix:=[1]) rfl (CompScope.of rfl) rfl ⟨⟨rfl,.inl rfl,rfl⟩,trivial⟩ (Bs (Bf Bn (pv 0) Al (fun _ _=>rfl))) (fun _ _ _=>(Ay (i:=0) (show (["_law_part", "_law_loss_here"]:List Str).Nodup from by decide +kernel) rfl (Or.inl rfl))) (fun _ _ _=>Cu) (fun _ _ _=>(Ax C_law_holds (hr.mono (by lia)) rfl (Aa (pv 0) (Aa (pv 1) Ai))))) rfl)))
    Bk)
   (Ae (Bt (Bi Cf (Bf Bn (pv 0) Al (fun _ _=>rfl)) Br (Bl _))
    (An (Bc (Dq Oi Ee (Cn (NC:=["_law_part", "_law_loss_here"]) (own:=["_law_part"]) (cs:=["_law_loss_here"]) (ix:=[1]) rfl (CompScope.of rfl) rfl ⟨⟨rfl,.inl rfl,rfl⟩,trivial⟩ (Bs (Bf Bn (pv 0) Al (fun _ _=>rfl))) (fun _ _ _=>(Ay (i:=0) (show (["_law_part", "_law_loss_here"]:List Str).Nodup from by decide +kernel) rfl (Or.inl rfl))) (fun _ _ _=>Cu) (fun _ _ _=>(Ax C_law_holds (hr.mono (by lia)) rfl (Aa (pv 0) (Aa (pv 1) Ai))))) rfl)))
    Bk)
   (An (Bc Ee))))))))),?_⟩
 have sne:∀ {y z:Str},y≠z->¬ V.str y=V.str z:=fun h e=>h (V.str.inj e);cases t with
 | «at» c=>
  cases c with
  | alw=>
   unfold TrAt at tr;obtain⟨p,rfl,hp⟩:=tr;have q':=q H (Same.refl _);unfold hT at q';refine (vE rfl (vI rfl rfl (SqT.of hp) rfl ⟨rfl,vE rfl (dF (sne (by decide +kernel)) ?_)⟩));refine (vE rfl (vI rfl rfl (SqT.of hp) rfl ⟨rfl,vE rfl (dF (sne (by decide +kernel)) ?_)⟩));refine (vE rfl (vI rfl rfl (SqT.of hp) rfl ⟨rfl,vE rfl (dF (sne (by decide +kernel)) ?_)⟩));refine (vE rfl (vI rfl rfl (SqT.of hp) rfl ⟨rfl,vE rfl (dF (sne (by decide +kernel)) ?_)⟩));refine (vE rfl (vI rfl rfl (SqT.of hp) rfl ⟨rfl,vE rfl (dF (sne (by decide +kernel)) ?_)⟩));refine (vE rfl (vI rfl rfl (SqT.of hp) rfl ⟨rfl,vE rfl (dF (sne (by decide +kernel)) ?_)⟩));exact (vE rfl (vI rfl rfl (SqT.of hp) rfl ⟨rfl,vE rfl (dF (sne (by decide +kernel)) q')⟩))
  | cau n=>
   unfold TrAt at tr;obtain⟨p,rfl,hp⟩:=tr;have q':=q H (Same.refl _);unfold hT at q';exact (vE rfl (vI rfl rfl (SqT.of hp) rfl ⟨rfl,vE rfl (dT rfl (vE rfl (vI rfl rfl (SqT.of hl) rfl (vE rfl (vI rfl rfl (SqT.of hp) rfl ⟨rfl,q'⟩)))))⟩))
  | thi n=>
   unfold TrAt at tr;obtain⟨p,rfl,hp⟩:=tr;have q':=q H (Same.refl _);unfold hT at q';refine (vE rfl (vI rfl rfl (SqT.of hp) rfl ⟨rfl,vE rfl (dF (sne (by decide +kernel)) ?_)⟩));exact (vE rfl (vI rfl rfl (SqT.of hp) rfl ⟨rfl,vE rfl (dT rfl (vE rfl (vI rfl rfl (SqT.of hl) rfl (vE rfl (vI rfl rfl (SqT.of hp) rfl ⟨rfl,q'⟩)))))⟩))
  | day a b=>
   unfold TrAt at tr;obtain⟨p,rfl,hp⟩:=tr;have q':Q (.bl (decide (a<=x.d)&&decide (x.d<=b))) H:=by have q':=q H (Same.refl _); unfold hT at q'; exact q'
   refine (vE rfl (vI rfl rfl (SqT.of hp) rfl ⟨rfl,vE rfl (dF (sne (by decide +kernel)) ?_)⟩));refine (vE rfl (vI rfl rfl (SqT.of hp) rfl ⟨rfl,vE rfl (dF (sne (by decide +kernel)) ?_)⟩));refine (vE rfl (vI rfl rfl (SqT.of hp) rfl ⟨rfl,vE rfl (dT rfl (vE rfl (vI rfl rfl (SqT.of hp) rfl (vE rfl (vI rfl rfl (SqT.of hl) rfl (vF rfl rfl (vE rfl (Qo (fun e=>?_) (fun e=>?_)))))))))⟩))
   ·have e:decide (a<=x.d)=true:=e
    rw[e,Bool.true_and] at q';exact (vE rfl (vI rfl rfl (SqT.of hp) rfl (vF rfl rfl (q'))))
   ·have e:decide (a<=x.d)=false:=zBa.mpr e
    rw[e,zBH] at q';exact q'
  | ovr c=>
   unfold TrAt at tr;obtain⟨p,rfl,hp⟩:=tr;have q':=q H (Same.refl _);unfold hT at q';refine (vE rfl (vI rfl rfl (SqT.of hp) rfl ⟨rfl,vE rfl (dF (sne (by decide +kernel)) ?_)⟩));refine (vE rfl (vI rfl rfl (SqT.of hp) rfl ⟨rfl,vE rfl (dF (sne (by decide +kernel)) ?_)⟩));refine (vE rfl (vI rfl rfl (SqT.of hp) rfl ⟨rfl,vE rfl (dF (sne (by decide +kernel)) ?_)⟩));exact (vE rfl (vI rfl rfl (SqT.of hp) rfl ⟨rfl,vE rfl (dT rfl (vE rfl (vI rfl rfl (SqT.of hl) rfl (vE rfl (vI rfl rfl (SqT.of hp) rfl (vF rfl rfl (q')))))))⟩))
 | no t=>
  unfold TrAt at tr;obtain⟨p,wt,rfl,hp,tr⟩:=tr;unfold Mv at hg;refine (vE rfl (vI rfl rfl (SqT.of hp) rfl ⟨rfl,vE rfl (dF (sne (by decide +kernel)) ?_)⟩));refine (vE rfl (vI rfl rfl (SqT.of hp) rfl ⟨rfl,vE rfl (dF (sne (by decide +kernel)) ?_)⟩));refine (vE rfl (vI rfl rfl (SqT.of hp) rfl ⟨rfl,vE rfl (dF (sne (by decide +kernel)) ?_)⟩));refine (vE rfl (vI rfl rfl (SqT.of hp) rfl ⟨rfl,vE rfl (dF (sne (by decide +kernel)) ?_)⟩));refine (vE rfl (vI rfl rfl (SqT.of hp) rfl ⟨rfl,vE rfl (dT rfl (vE rfl (vI rfl rfl (SqT.of hp) rfl (vE rfl ⟨wt,t,l,x,rfl,tr,by lia,by unfold Ls at ok; exact ok,⟨evt,nn,hl⟩,fun H' s'=>(vE rfl ?_)⟩))))⟩));have q':=q H' s';unfold hT at q';exact q'
 | al ts=>
  unfold TrAt at tr;obtain⟨p,a,vs,rfl,hp,ha,trs⟩:=tr;unfold Mv at hg;have hlen:=trs.len;unfold Ls at ok;obtain⟨_,ts8,oks⟩:=ok;refine (vE rfl (vI rfl rfl (SqT.of hp) rfl ⟨rfl,vE rfl (dF (sne (by decide +kernel)) ?_)⟩));refine (vE rfl (vI rfl rfl (SqT.of hp) rfl ⟨rfl,vE rfl (dF (sne (by decide +kernel)) ?_)⟩));refine (vE rfl (vI rfl rfl (SqT.of hp) rfl ⟨rfl,vE rfl (dF (sne (by decide +kernel)) ?_)⟩));refine (vE rfl (vI rfl rfl (SqT.of hp) rfl ⟨rfl,vE rfl (dF (sne (by decide +kernel)) ?_)⟩));refine (vE rfl (vI rfl rfl (SqT.of hp) rfl ⟨rfl,vE rfl (dF (sne (by decide +kernel)) ?_)⟩));refine (vE rfl (vI rfl rfl (SqT.of hp) rfl ⟨rfl,vE rfl (dT rfl (vE rfl (vI rfl rfl (SqT.of hp) rfl ⟨a,rfl,⟨_,SqL.of ha⟩,fun pc hpc=>?_⟩)))⟩));refine Bz (K:=K) (a:=a) (xs:=vs) (fun i ys H3=>H3 pc=some (.lst ys)/\ys=((ts.take i).map fun t=>V.bl (hT t x))/\Same H H3) ⟨Ac,by rw[zBJ]; rfl,Ao hpc _⟩ (fun i ys H3 _ ⟨h1,h2,h3⟩=>⟨h1,by rw[h2,zAb,zAt]; lia,SqL.of (h3 _ _ ha)⟩) (by rw[zCw]; lia) ?_ ?_
  ·rintro i v ys H3 hi ⟨h1,h2,h3⟩
   obtain⟨t,et,tr⟩:=trs.get hi;refine (vE rfl (vE rfl ⟨v,t,l,x,rfl,tr.same h3,Kz (by lia) i et,Rc oks t (zAB et),⟨evt,nn,h3 _ _ hl⟩,fun H6 s6=>⟨s6 _ _ h1,rfl,Ac,?_,Ew hpc (h3.trans s6)⟩⟩));rw[Bu et,zAp,<- h2];rfl
  ·rintro ys H3 ⟨h1,h2,h3⟩
   rw[hlen,zAw] at h2;subst h2;refine⟨pc,_,rfl,.inl (SqL.of h1),rfl,?_,?_⟩
   ·rw[List.all_map]
    exact zBK.mpr fun _ _=>rfl
   have q':=q H3 h3;unfold hT at q';rw[BN,<- AK,zBk] at q';exact q'
 | so ts=>
  unfold TrAt at tr;obtain⟨p,a,vs,rfl,hp,ha,trs⟩:=tr;unfold Mv at hg;have hlen:=trs.len;unfold Ls at ok;obtain⟨_,ts8,oks⟩:=ok;refine (vE rfl (vI rfl rfl (SqT.of hp) rfl ⟨rfl,vE rfl (dF (sne (by decide +kernel)) ?_)⟩));refine (vE rfl (vI rfl rfl (SqT.of hp) rfl ⟨rfl,vE rfl (dF (sne (by decide +kernel)) ?_)⟩));refine (vE rfl (vI rfl rfl (SqT.of hp) rfl ⟨rfl,vE rfl (dF (sne (by decide +kernel)) ?_)⟩));refine (vE rfl (vI rfl rfl (SqT.of hp) rfl ⟨rfl,vE rfl (dF (sne (by decide +kernel)) ?_)⟩));refine (vE rfl (vI rfl rfl (SqT.of hp) rfl ⟨rfl,vE rfl (dF (sne (by decide +kernel)) ?_)⟩));refine (vE rfl (vI rfl rfl (SqT.of hp) rfl ⟨rfl,vE rfl (dF (sne (by decide +kernel)) ?_)⟩));refine (vE rfl (vI rfl rfl (SqT.of hp) rfl ⟨rfl,vE rfl (dT rfl (vE rfl (vI rfl rfl (SqT.of hp) rfl ⟨a,rfl,⟨_,SqL.of ha⟩,fun pc hpc=>?_⟩)))⟩));refine Bz (K:=K) (a:=a) (xs:=vs) (fun i ys H3=>H3 pc=some (.lst ys)/\ys=((ts.take i).map fun t=>V.bl (hT t x))/\Same H H3) ⟨Ac,by rw[zBJ]; rfl,Ao hpc _⟩ (fun i ys H3 _ ⟨h1,h2,h3⟩=>⟨h1,by rw[h2,zAb,zAt]; lia,SqL.of (h3 _ _ ha)⟩) (by rw[zCw]; lia) ?_ ?_
  ·rintro i v ys H3 hi ⟨h1,h2,h3⟩
   obtain⟨t,et,tr⟩:=trs.get hi;refine (vE rfl (vE rfl ⟨v,t,l,x,rfl,tr.same h3,Kz (by lia) i et,Rc oks t (zAB et),⟨evt,nn,h3 _ _ hl⟩,fun H6 s6=>⟨s6 _ _ h1,rfl,Ac,?_,Ew hpc (h3.trans s6)⟩⟩));rw[Bu et,zAp,<- h2];rfl
  ·rintro ys H3 ⟨h1,h2,h3⟩
   rw[hlen,zAw] at h2;subst h2;refine⟨pc,_,rfl,.inl (SqL.of h1),rfl,?_,?_⟩
   ·rw[List.all_map]
    exact zBK.mpr fun _ _=>rfl
   have q':=q H3 h3;unfold hT at q';rw[BI,<- BL,zBk] at q';exact q'
def P4:Sp:=fun vs H Q _=>∃ c u:Int,∃ th ca,∃ B C:List Str,vs=[.int c,.ref th,.ref ca,.int u]/\0<=c/\Jy u/\H th=some (.lst (B.map V.str))/\H ca=some (.lst (C.map V.str))/\B.length=3/\C.length=3/\(∀ z∈B,N5 z)/\(∀ z∈C,N5 z)/\∀ v t H',Same H H'->TrAt (Nw H H') v t->Mv t<3->Ls Ox t->Q v H'
theorem Gu {ns:List Str} {i:Int} (h0:0<=i) (h:i<ns.length):∃ z,z∈ns/\Of (ns.map V.str) i=some (.str z):=by
 obtain⟨j,rfl⟩:=Int.eq_ofNat_of_zero_le h0;have hj:j<ns.length:=by lia
 refine⟨ns[j],zBb _,Ge ?_⟩;rw[zAs,zAe hj];rfl
theorem Yd:Bd ["_law_cell_here", "_law_things", "_law_causes", "_law_unit_here", "_law_cause", "_law_thing", "_law_over", "_law_first", "_law_some"] ["_law_cell_here", "_law_things", "_law_causes", "_law_unit_here"] (Ar Kd):=⟨rfl,rfl,rfl,by decide +kernel,rfl,by decide +kernel,by decide +kernel⟩
theorem Xp {f:Addr} {fd:zCy} (F:Fun K "_law_cond" "_law_cond" Kd f fd) (T:Txt K mg) (C_law_amount:Cp P w K mg base 1 "_law_amount" ["_law_digit", "_law_unit_here"] V5):FnOk P w K mg base Da 2 f fd ["_law_cell_here", "_law_things", "_law_causes", "_law_unit_here"] P4:=by
 have sc:=Yd;refine F.ok sc (fun vs H Q E h=>?_) (fun cdv A outer s H vs Q E hr h=>?_)
 ·obtain⟨_,_,_,_,_,_,rfl,_⟩:=h
  rfl
 obtain⟨c,u,th,ca,B,C,rfl,c0,uo,hth,hca,lB,lC,nB,nC,q⟩:=h;refine⟨_,(Ae (Bh (i:=4) sc.nd rfl (Or.inl rfl) (Cc (Aa Br (Aa (Bf Bp (pv 2) (Be Cb (Be Ca (pv 0) Al) Al) (fun _ _=>rfl)) Ai))))
   (Ae (Bh (i:=5) sc.nd rfl (Or.inl rfl) (Cc (Aa Br (Aa (Bf Bp (pv 1) (Be Cb (Be Ca (pv 0) Al) Al) (fun _ _=>rfl)) Ai))))
   (Ae (Bh (i:=6) sc.nd rfl (Or.inl rfl) (Cc (Aa Br (Aa (Ax C_law_amount (hr.mono (by decide)) rfl (Aa (Be Cb (Be Ca (pv 0) Al) Al) (Aa (pv 3) Ai))) Ai))))
   (Ae (Bh (i:=7) sc.nd rfl (Or.inl rfl) (Be Cq (Be Fl Al (Be Cb (Be Ca (pv 0) Al) Al)) (Be Cb (Be Ca (pv 0) Al) Al)))
   (Ae (Bh (i:=8) sc.nd rfl (Or.inl rfl) (Ce (Aa (pv 4) (Aa (pv 5) (Aa (pv 6) (Aa (Cc (Aa Br (Aa (pv 7) (Aa (Be Cq (pv 7) (Be Cb (Be Ca (pv 0) Al) Al)) Ai)))) (Aa (Cc (Aa Br (Aa (pv 4) Ai))) Ai)))))))
   (Ae (Bh (i:=8) sc.nd rfl (Or.inl rfl) (Be Hw (pv 8) (Ce (Aa (Cc (Aa Br (Aa (Ce (Aa (Cc (Aa Br (Aa (pv 6) Ai))) (Aa (pv 5) Ai))) Ai))) (Aa (Cc (Aa Br (Aa (Ce (Aa (pv 4) (Aa (pv 5) (Aa (pv 6) Ai)))) Ai))) Ai)))))
   (Ae (Bt (Bi Ty (Be Cb (pv 0) Al) Al (Bl _))
    (An (Bc (Bf Bp (pv 8) (Be Ji (Be Cb (pv 0) Al) Al) (fun _ _=>rfl))))
    Bk)
   (An (Bc (Cc (Aa Br Ai))))))))))),?_⟩
 have two:2<=sizeLine:=by rw[zCw]; decide
 have three:3<=sizeLine:=by rw[zCw]; decide
 have five:5<=sizeLine:=by rw[zCw]; decide
 have one:1<=sizeLine:=by rw[zCw]; decide
 obtain⟨n1,i1,a1⟩:=Gu (ns:=C) (i:=c/10%3) (by lia) (by lia);obtain⟨n2,i2,a2⟩:=Gu (ns:=B) (i:=c/30%3) (by lia) (by lia);have o1:=nC n1 i1;have o2:=nB n2 i2;refine (vE rfl (vE rfl (vF rfl rfl ⟨⟨by decide,by decide⟩,_,_,rfl,rfl,(by show (0:Int)<3; decide),vI rfl rfl (SqL.of hca) a1 ⟨two,fun t1 k1=>?_⟩⟩)));refine Dz [some (.int c),some (.ref th),some (.ref ca),some (.int u),some (.ref t1),none,none,none,none] rfl ?_;have s1:=Ao k1 (.tup [V.str "cause",.str n1]);have h1:upd H t1 (.tup [V.str "cause",.str n1]) t1=some (.tup [V.str "cause",.str n1]):=Ac;generalize upd H t1 (.tup [V.str "cause",.str n1])=H1 at s1 h1;refine (vE rfl (vE rfl (vF rfl rfl ⟨⟨by decide,by decide⟩,_,_,rfl,rfl,(by show (0:Int)<3; decide),vI rfl rfl (SqL.of (s1 _ _ hth)) a2 ⟨two,fun t2 k2=>?_⟩⟩)));refine Dz [some (.int c),some (.ref th),some (.ref ca),some (.int u),some (.ref t1),some (.ref t2),none,none,none] rfl ?_;have s2:=Ao k2 (.tup [V.str "thing",.str n2]);have h2:upd H1 t2 (.tup [V.str "thing",.str n2]) t2=some (.tup [V.str "thing",.str n2]):=Ac;generalize upd H1 t2 (.tup [V.str "thing",.str n2])=H2 at s2 h2;have d90:=md (a:=c/90) (b:=39) (by decide);refine (vE rfl (vF rfl rfl ⟨⟨by decide,by decide⟩,_,_,rfl,rfl,(by show (0:Int)<39; decide),_,rfl,_,u,rfl,d90.1,uo,fun m m0 m1=>⟨two,fun t3 k3=>?_⟩⟩));refine Dz [some (.int c),some (.ref th),some (.ref ca),some (.int u),some (.ref t1),some (.ref t2),some (.ref t3),none,none] rfl ?_;have s3:=Ao k3 (.tup [V.str "over",.int m]);have h3:upd H2 t3 (.tup [V.str "over",.int m]) t3=some (.tup [V.str "over",.int m]):=Ac
 generalize upd H2 t3 (.tup [V.str "over",.int m])=H3 at s3 h3;refine (vE rfl (vF rfl rfl ⟨⟨by decide,by decide⟩,_,_,rfl,rfl,(by show (0:Int)<3; decide),_,_,rfl,rfl,.inl ⟨by decide,by decide⟩,vE rfl (vF rfl rfl ⟨⟨by decide,by decide⟩,_,_,rfl,rfl,(by show (0:Int)<4; decide),_,_,rfl,rfl,?_⟩)⟩));refine Px 0 733 ⟨by lia,by lia⟩ fun fi f0 f1=>?_;have d42:=md (a:=c/42120) (b:=400) (by decide);refine (vE rfl (vE rfl (vE rfl (vE rfl (vE rfl (vE rfl (vF rfl rfl ⟨⟨by decide,by decide⟩,_,_,rfl,rfl,(by show (0:Int)<400; decide),_,_,rfl,rfl,three,fun t4 k4=>?_⟩)))))));generalize c/42120%400=e4 at d42;have s4:=Ao k4 (.tup [V.str "days",.int fi,.int (fi+e4)]);have h4:upd H3 t4 (.tup [V.str "days",.int fi,.int (fi+e4)]) t4=some (.tup [V.str "days",.int fi,.int (fi+e4)]):=Ac;generalize upd H3 t4 (.tup [V.str "days",.int fi,.int (fi+e4)])=H4 at s4 h4;refine (vE rfl ⟨two,fun t5 k5=>?_⟩);have s5:=Ao k5 (.tup [V.str "not",.ref t1]);have h5:upd H4 t5 (.tup [V.str "not",.ref t1]) t5=some (.tup [V.str "not",.ref t1]):=Ac;generalize upd H4 t5 (.tup [V.str "not",.ref t1])=H5 at s5 h5;refine⟨five,fun l1 j1=>?_⟩;have s6:=Ao j1 (.lst [V.ref t1,.ref t2,.ref t3,.ref t4,.ref t5]);have g6:upd H5 l1 (.lst [V.ref t1,.ref t2,.ref t3,.ref t4,.ref t5]) l1=some (.lst [V.ref t1,.ref t2,.ref t3,.ref t4,.ref t5]):=Ac;generalize upd H5 l1 (.lst [V.ref t1,.ref t2,.ref t3,.ref t4,.ref t5])=H6 at s6 g6;refine Dz [some (.int c),some (.ref th),some (.ref ca),some (.int u),some (.ref t1),some (.ref t2),some (.ref t3),some (.int fi),some (.ref l1)] rfl ?_
 refine (vE rfl (vE rfl ⟨two,fun t6 k6=>?_⟩));have s7:=Ao k6 (.tup [V.str "not",.ref t3]);have h6:upd H6 t6 (.tup [V.str "not",.ref t3]) t6=some (.tup [V.str "not",.ref t3]):=Ac;generalize upd H6 t6 (.tup [V.str "not",.ref t3])=H7 at s7 h6;refine (vE rfl ⟨two,fun l2 j2=>?_⟩);have s8:=Ao j2 (.lst [V.ref t6,.ref t2]);have g8:upd H7 l2 (.lst [V.ref t6,.ref t2]) l2=some (.lst [V.ref t6,.ref t2]):=Ac;generalize upd H7 l2 (.lst [V.ref t6,.ref t2])=H8 at s8 g8;refine⟨two,fun t7 k7=>?_⟩;have s9:=Ao k7 (.tup [V.str "all",.ref l2]);have h7:upd H8 t7 (.tup [V.str "all",.ref l2]) t7=some (.tup [V.str "all",.ref l2]):=Ac;generalize upd H8 t7 (.tup [V.str "all",.ref l2])=H9 at s9 h7;refine (vE rfl (vE rfl (vE rfl ⟨three,fun l3 j3=>?_⟩)));have s10:=Ao j3 (.lst [V.ref t1,.ref t2,.ref t3]);have g10:upd H9 l3 (.lst [V.ref t1,.ref t2,.ref t3]) l3=some (.lst [V.ref t1,.ref t2,.ref t3]):=Ac;generalize upd H9 l3 (.lst [V.ref t1,.ref t2,.ref t3])=H10 at s10 g10;refine⟨two,fun t8 k8=>?_⟩;have s11:=Ao k8 (.tup [V.str "some",.ref l3]);have h8:upd H10 t8 (.tup [V.str "some",.ref l3]) t8=some (.tup [V.str "some",.ref l3]):=Ac;generalize upd H10 t8 (.tup [V.str "some",.ref l3])=H11 at s11 h8;refine⟨two,fun l4 j4=>?_⟩;have s12:=Ao j4 (.lst [V.ref t7,.ref t8]);have g12:upd H11 l4 (.lst [V.ref t7,.ref t8]) l4=some (.lst [V.ref t7,.ref t8]):=Ac;generalize upd H11 l4 (.lst [V.ref t7,.ref t8])=H12 at s12 g12;have s12':=s7.trans (s8.trans (s9.trans (s10.trans (s11.trans s12))));refine⟨l1,l4,_,_,rfl,rfl,s12' _ _ g6,g12,By (by show 7<=1000; decide),fun l5 j5=>?_⟩
 have s13:=Ao j5 (.lst ([V.ref t1,.ref t2,.ref t3,.ref t4,.ref t5]++[V.ref t7,.ref t8]));have g13:upd H12 l5 (.lst ([V.ref t1,.ref t2,.ref t3,.ref t4,.ref t5]++[V.ref t7,.ref t8])) l5=some (.lst [V.ref t1,.ref t2,.ref t3,.ref t4,.ref t5,.ref t7,.ref t8]):=Ac;generalize upd H12 l5 (.lst ([V.ref t1,.ref t2,.ref t3,.ref t4,.ref t5]++[V.ref t7,.ref t8]))=H13 at s13 g13;refine Dz [some (.int c),some (.ref th),some (.ref ca),some (.int u),some (.ref t1),some (.ref t2),some (.ref t3),some (.int fi),some (.ref l5)] rfl ?_;have S13:=s12'.trans s13;have S6:=s4.trans (s5.trans s6);have z3:=S13 _ _ (S6 _ _ h3);have z2:=S13 _ _ (S6 _ _ (s3 _ _ h2));have z1:=S13 _ _ (S6 _ _ (s3 _ _ (s2 _ _ h1)));have SS:Same H H13:=s1.trans (s2.trans (s3.trans (S6.trans S13)));have a3:=s1.trans (s2.trans s3);have a4:=a3.trans s4;have a6:=a3.trans S6;have a7:=a6.trans s7;have a8:=a7.trans s8;have a9:=a8.trans s9;have a10:=a9.trans s10;have T1:TrAt (Nw H H13) (.ref t1) (.at (.cau n1)):=by unfold TrAt; exact⟨t1,rfl,Nw.of k1 z1⟩
 have T2:TrAt (Nw H H13) (.ref t2) (.at (.thi n2)):=by unfold TrAt; exact⟨t2,rfl,Nw.of (s1.free k2) z2⟩
 have T3:TrAt (Nw H H13) (.ref t3) (.at (.ovr m)):=by unfold TrAt; exact⟨t3,rfl,Nw.of ((s1.trans s2).free k3) z3⟩
 have T4:TrAt (Nw H H13) (.ref t4) (.at (.day fi (fi+e4))):=by unfold TrAt; exact⟨t4,rfl,Nw.of (a3.free k4) (S13 _ _ (s6 _ _ (s5 _ _ h4)))⟩
 have T5:TrAt (Nw H H13) (.ref t5) (.no (.at (.cau n1))):=by unfold TrAt; exact⟨t5,_,rfl,Nw.of (a4.free k5) (S13 _ _ (s6 _ _ h5)),T1⟩
 have T6:TrAt (Nw H H13) (.ref t6) (.no (.at (.ovr m))):=by unfold TrAt; exact⟨t6,_,rfl,Nw.of (a6.free k6) (s13 _ _ (s12 _ _ (s11 _ _ (s10 _ _ (s9 _ _ (s8 _ _ h6)))))),T3⟩
 have T7:TrAt (Nw H H13) (.ref t7) (.al [.no (.at (.ovr m)),.at (.thi n2)]):=by
  unfold TrAt;refine⟨t7,l2,_,rfl,Nw.of (a8.free k7) (s13 _ _ (s12 _ _ (s11 _ _ (s10 _ _ h7)))),Nw.of (a7.free j2) (s13 _ _ (s12 _ _ (s11 _ _ (s10 _ _ (s9 _ _ g8))))),?_⟩;unfold TrsAt;refine⟨T6,?_⟩;unfold TrsAt;refine⟨T2,?_⟩;unfold TrsAt;trivial
 have T8:TrAt (Nw H H13) (.ref t8) (.so [.at (.cau n1),.at (.thi n2),.at (.ovr m)]):=by
  unfold TrAt;refine⟨t8,l3,_,rfl,Nw.of (a10.free k8) (s13 _ _ (s12 _ _ h8)),Nw.of (a9.free j3) (s13 _ _ (s12 _ _ (s11 _ _ g10))),?_⟩;unfold TrsAt;refine⟨T1,?_⟩;unfold TrsAt;refine⟨T2,?_⟩;unfold TrsAt;refine⟨T3,?_⟩;unfold TrsAt;trivial
 have om:0<=m/\m<=999999999999:=⟨m0,by lia⟩;have K1:Ls Ox (.at (.cau n1)):=by unfold Ls; exact o1
 have K2:Ls Ox (.at (.thi n2)):=by unfold Ls; exact o2
 have K3:Ls Ox (.at (.ovr m)):=by unfold Ls; exact om
 have K4:Ls Ox (.at (.day fi (fi+e4))):=by unfold Ls; exact⟨f0,by lia,by lia⟩
 have K5:Ls Ox (.no (.at (.cau n1))):=by unfold Ls; exact K1
 have K6:Ls Ox (.no (.at (.ovr m))):=by unfold Ls; exact K3
 have K7:Ls Ox (.al [.no (.at (.ovr m)),.at (.thi n2)]):=by
  unfold Ls;refine⟨by simp,by simp,R1 fun t ht=>?_⟩;simp at ht;rcases ht with rfl | rfl
  ·exact K6
  ·exact K2
 have K8:Ls Ox (.so [.at (.cau n1),.at (.thi n2),.at (.ovr m)]):=by
  unfold Ls;refine⟨by simp,by simp,R1 fun t ht=>?_⟩;simp at ht;rcases ht with rfl | rfl | rfl
  ·exact K1
  ·exact K2
  ·exact K3
 refine (vE rfl (vF rfl rfl ⟨(by show (0:Int)<10; decide),_,_,rfl,rfl,vE rfl ?_⟩));by_cases c10:c%10>2
 ·refine dT c10 ?_
  have cs:c%10-3=0\/c%10-3=1\/c%10-3=2\/c%10-3=3\/c%10-3=4\/c%10-3=5\/c%10-3=6:=by lia
  obtain⟨v,t,ev,tv,hv,kv⟩:∃ v t,Of [V.ref t1,.ref t2,.ref t3,.ref t4,.ref t5,.ref t7,.ref t8] (c%10-3)=some v/\TrAt (Nw H H13) v t/\Mv t<3/\Ls Ox t:=by
   rcases cs with e | e | e | e | e | e | e <;> rw[e]
   ·exact⟨_,_,rfl,T1,by simp [Mv,hgts],K1⟩
   ·exact⟨_,_,rfl,T2,by simp [Mv,hgts],K2⟩
   ·exact⟨_,_,rfl,T3,by simp [Mv,hgts],K3⟩
   ·exact⟨_,_,rfl,T4,by simp [Mv,hgts],K4⟩
   ·exact⟨_,_,rfl,T5,by simp [Mv,hgts],K5⟩
   ·exact⟨_,_,rfl,T7,by simp [Mv,hgts],K7⟩
   ·exact⟨_,_,rfl,T8,by simp [Mv,hgts],K8⟩
  exact (vE rfl (vE rfl (vF rfl rfl ⟨(by show (0:Int)<10; decide),_,_,rfl,rfl,vI rfl rfl (SqL.of g13) ev (q v t _ SS tv hv kv)⟩)))
 ·refine dF c10 ⟨one,fun t9 k9=>?_⟩
  exact q _ (.at .alw) _ (SS.trans (Ao k9 _)) (by unfold TrAt; exact⟨t9,rfl,Nw.of (SS.free k9) Ac⟩) (by decide) (by unfold Ls; trivial)
theorem QF:(10:Int)^(12:Int).toNat=1000000000000:=by decide +kernel
theorem e6:(10:Int)^(6:Int).toNat=1000000:=by decide +kernel
theorem e9:(10:Int)^(9:Int).toNat=1000000000:=by decide +kernel
def L8:Sp:=fun vs H Q _=>∃ c u:Int,∃ w A B C D,vs=[.int c,.ref w,.int u]/\Jy u/\WorldAt H w A B C D/\NK A B C D/\∀ t z H',Same H H'->H t=none->H' t=some (.tup (LF.vs z))->0<z.ct->Q (.ref t) H'
theorem Om:Str.ofString "." = tx [46]:=by decide +kernel
theorem Ou {ns:List Str} (N:FP ns) {z:Str} (h:z∈ns):z.length<=8:=(N.ok z h).2.1
theorem Xo:Bd ["_law_cell_here", "_law_world_here", "_law_unit_here", "_law_drawn", "_law_number", "_law_cents", "_law_date", "_law_day", "_law_deep", "_law_events", "_law_thing"] ["_law_cell_here", "_law_world_here", "_law_unit_here"] (Ar Jv):=⟨rfl,rfl,rfl,by decide +kernel,rfl,by decide +kernel,by decide +kernel⟩
theorem Xm {f:Addr} {fd:zCy} (F:Fun K "_law_loss" "_law_loss" Jv f fd) (T:Txt K mg):FnOk P w K mg base Da 1 f fd ["_law_cell_here", "_law_world_here", "_law_unit_here"] L8:=by
 have sc:=Xo;refine F.ok sc (fun vs H Q E h=>?_) (fun cdv A outer s H vs Q E hr h=>?_)
 ·obtain⟨_,_,_,_,_,_,_,rfl,_⟩:=h
  rfl
 obtain⟨c,u,wl,A,B,C,D,rfl,⟨u1,u2⟩,wa,W,q⟩:=h;refine⟨_,(Ae (Bh (i:=3) sc.nd rfl (Or.inl rfl) (Be Cb (Be Fl (pv 0) Al) Al))
   (Ae (Bh (i:=4) sc.nd rfl (Or.inl rfl) (Be Cb (Be Ca (pv 3) Al) Al))
   (Ae (Bh (i:=5) sc.nd rfl (Or.inl rfl) (Be Cq (Be Cq Al (Be Fl (Be Cb (pv 3) Al) (pv 2))) (Be Cb (Be Ca (pv 3) Al) Al)))
   (Ae (Bh (i:=6) sc.nd rfl (Or.inl rfl) (Be Cb (Be Ca (pv 3) Al) Al))
   (Ae (Bh (i:=7) sc.nd rfl (Or.inl rfl) (Be Cq (Be Fl Al (Be Ca (pv 6) Al)) (Bf Bp (Ce (Aa Al (Aa Al (Aa Al (Aa Al Ai))))) (Be Cb (pv 6) Al) (fun _ _=>rfl))))
   (Ae (Bt (Bi Cf (Be Cb (Be Ca (pv 3) Al) Al) Al (Bl _))
    (Ae (Bh (i:=5) sc.nd rfl (Or.inl rfl) (Be Cq Al (Be Cb (pv 0) (Be Ji (Be Yu Al Al) Al))))
   (Ae (Bh (i:=7) sc.nd rfl (Or.inl rfl) (Be Cb (pv 0) (Be Cq (Be Yu Al Al) Al)))
   (An (Bh (i:=4) sc.nd rfl (Or.inl rfl) (Be Cb (pv 0) (Be Cq (Be Yu Al Al) Al))))))
    Bk)
   (Ae (Bh (i:=8) sc.nd rfl (Or.inl rfl) (Be Ds (Be Ds (Bf Bp (Bf Bp (pv 1) Al (fun _ _=>rfl)) Al (fun _ _=>rfl)) Br) (Bf Bp (Bf Bp (pv 1) Al (fun _ _=>rfl)) Al (fun _ _=>rfl))))
   (Ae (Bh (i:=9) sc.nd rfl (Or.inl rfl) (Be Hw (Bf Bp (pv 1) Al (fun _ _=>rfl)) (Ce (Aa (Be Ds (Be Ds (pv 8) Br) (Bf Bp (Bf Bp (pv 1) Al (fun _ _=>rfl)) Al (fun _ _=>rfl))) Ai))))
   (Ae (Bh (i:=10) sc.nd rfl (Or.inl rfl) (Bf Bp (Bf Bp (pv 1) Al (fun _ _=>rfl)) (Be Cb (Be Ca (pv 3) Al) Al) (fun _ _=>rfl)))
   (An (Bc (Cc (Aa (pv 4) (Aa (pv 7) (Aa (Bf Bp (pv 9) (Be Cb (Be Ca (pv 3) Al) Al) (fun _ _=>rfl)) (Aa (pv 10) (Aa (Bf Bp (Bf Bp (pv 1) Al (fun _ _=>rfl)) (Be Cb (Be Ca (pv 3) Al) Al) (fun _ _=>rfl)) (Aa (pv 5) Ai)))))))))))))))))),?_⟩
 have one:1<=sizeLine:=by rw[zCw]; decide
 obtain⟨la,lb,lc,ld,hw,ha,hb,hc,hd⟩:=wa;have eA:=W.la;have eB:=W.lb;have eC:=W.lc;refine (vE rfl (vF rfl rfl ⟨.inr ⟨by decide,by decide⟩,vF rfl rfl ⟨(by show (0:Int)<2147483647; decide),?_⟩⟩));refine Px 0 2147483646 (md (by decide)) fun r r0 r1=>?_;refine (vE rfl (vF rfl rfl ⟨⟨by decide,by decide⟩,_,_,rfl,rfl,(by show (0:Int)<5; decide),?_⟩));refine Px 0 4 (md (by decide)) fun nu nu0 nu4=>?_;have m25:=md (a:=r) (b:=25) (by decide);have p0:0<=r%25*u:=Int.mul_nonneg m25.1 (by lia);refine (vE rfl (vF rfl rfl ⟨(by show (0:Int)<25; decide),_,rfl,vF rfl rfl ⟨.inr ⟨by lia,by lia⟩,vF rfl rfl (vE rfl (vF rfl rfl ⟨⟨by decide,by decide⟩,_,_,rfl,rfl,(by show (0:Int)<4; decide),_,_,rfl,rfl,?_⟩))⟩⟩));have m4:=md (a:=r/25) (b:=4) (by decide);obtain⟨ce,ece,ce0⟩:∃ ce:Int,ce=1+r%25*u+r/25%4/\0<ce:=⟨_,rfl,by lia⟩;refine Dz [some (.int c),some (.ref wl),some (.int u),some (.int r),some (.int nu),some (.int ce),none,none,none,none,none] (by rw[ece]; rfl) ?_;refine (vE rfl (vF rfl rfl ⟨⟨by decide,by decide⟩,_,_,rfl,rfl,(by show (0:Int)<12; decide),?_⟩));refine Px 0 11 (md (by decide)) fun dt dt0 dt1=>?_;refine (vE rfl (vF rfl rfl ⟨⟨by decide,by decide⟩,_,_,rfl,rfl,.inl ⟨by decide,by decide⟩,By (by show 4<=1000; decide),fun l1 k1=>?_⟩));have f4:dt%4=0\/dt%4=1\/dt%4=2\/dt%4=3:=by lia
 obtain⟨dd,hdd⟩:∃ dd:Int,Of [V.int 0,.int 1,.int 2,.int 364] (dt%4)=some (.int dd):=by
  rcases f4 with e | e | e | e <;> rw[e]
  ·exact⟨_,rfl⟩
  ·exact⟨_,rfl⟩
  ·exact⟨_,rfl⟩
  ·exact⟨_,rfl⟩
 have s1:=Ao k1 (.lst [V.int 0,.int 1,.int 2,.int 364]);refine (vE rfl (vF rfl rfl ⟨(by show (0:Int)<4; decide),vI rfl rfl (SqL.of Ac) hdd (vF rfl rfl ?_)⟩));generalize upd H l1 (.lst [V.int 0,.int 1,.int 2,.int 364])=H1 at s1;obtain⟨day,eday⟩:∃ day:Int,day=365*(dt/4)+dd:=⟨_,rfl⟩;refine Dz [some (.int c),some (.ref wl),some (.int u),some (.int r),some (.int nu),some (.int ce),some (.int dt),some (.int day),none,none,none] (by rw[eday]; rfl) ?_;refine (vE rfl (vF rfl rfl ⟨⟨by decide,by decide⟩,_,_,rfl,rfl,(by show (0:Int)<9; decide),rfl,vE rfl ?_⟩));refine MH (fun σ H'=>(∃ n' ce' day':Int,σ=[some (.int c),some (.ref wl),some (.int u),some (.int r),some (.int n'),some (.int ce'),some (.int dt),some (.int day'),none,none,none]/\0<ce')/\H'=H1) (fun _ N R=>?_) (fun _ N R=>R _ _ ⟨⟨_,_,_,rfl,ce0⟩,rfl⟩) ?_
 ·refine (vE rfl (vF rfl rfl ⟨⟨by decide,by decide,by decide⟩,_,_,rfl,rfl,vF rfl rfl ⟨(by show (0:Int)<(10:Int)^(12:Int).toNat-1; rw[QF]; decide),_,_,rfl,rfl,?_⟩⟩))
  refine (vE rfl (vF rfl rfl ⟨⟨by decide,by decide,by decide⟩,_,_,rfl,rfl,vF rfl rfl ⟨(by show (0:Int)<(10:Int)^(6:Int).toNat+1; rw[e6]; decide),?_⟩⟩));refine (vE rfl (vF rfl rfl ⟨⟨by decide,by decide,by decide⟩,_,_,rfl,rfl,vF rfl rfl ⟨(by show (0:Int)<(10:Int)^(9:Int).toNat+1; rw[e9]; decide),R _ _ ⟨⟨_,_,_,rfl,?_⟩,rfl⟩⟩⟩));have:=Int.emod_nonneg c (b:=(10:Int)^(12:Int).toNat-1) (by rw[QF]; decide);show 0<1+c%((10:Int)^(12:Int).toNat-1)
  lia
 rintro σ H' ⟨⟨n',ce',day',rfl,ce0'⟩,rfl⟩;have hw1:=s1 _ _ hw;have ha1:=s1 _ _ ha;obtain⟨x0,i0,y0⟩:=Gu (ns:=A) (i:=0) (by lia) (by lia);obtain⟨x1,i1,y1⟩:=Gu (ns:=A) (i:=1) (by lia) (by lia);obtain⟨x2,i2,y2⟩:=Gu (ns:=A) (i:=2) (by lia) (by lia);have L0:=Ou W.a i0;have L1:=Ou W.a i1;have L2':=Ou W.a i2;have ld1:(Str.ofString ".").length=1:=by decide +kernel
 have at0:Of [V.ref la,.ref lb,.ref lc,.ref ld] 0=some (.ref la):=rfl;have at1:Of [V.ref la,.ref lb,.ref lc,.ref ld] 1=some (.ref lb):=rfl;have at2:Of [V.ref la,.ref lb,.ref lc,.ref ld] 2=some (.ref lc):=rfl;have tx0:∀ x:Str,∃ l,x=tx l:=fun x=>⟨_,(X3 x).symm⟩;obtain⟨l0,rfl⟩:=tx0 x0;obtain⟨l1',rfl⟩:=tx0 x1;obtain⟨l2,rfl⟩:=tx0 x2;rw[Dr] at L0 L1 L2';refine (vE rfl (vI rfl rfl (SqL.of hw1) at0 (vI rfl rfl (SqL.of ha1) y0 (vF rfl rfl ⟨by rw[ld1,Dr]; exact By (by lia),_,rfl,vI rfl rfl (SqL.of hw1) at0 (vI rfl rfl (SqL.of ha1) y1 (vF rfl rfl ⟨?_,?_⟩))⟩))))
 ·rw[Om,Il,Dr,Dr,zAi]
  exact By (by show l0.length+1+l1'.length<=1000; lia)
 refine Dz [some (.int c),some (.ref wl),some (.int u),some (.int r),some (.int n'),some (.int ce'),some (.int dt),some (.int day'),some (.str (tx (l0++[46]++l1'))),none,none] (by exact congrArg (fun z:Str=>[some (V.int c),some (V.ref wl),some (V.int u),some (V.int r),some (V.int n'),some (V.int ce'),some (V.int dt),some (V.int day'),some (V.str z),none,none]) (by rw[Om,Il,Il])) ?_;refine (vE rfl (vI rfl rfl (SqL.of hw1) at0 (vE rfl (vF rfl rfl ⟨?_,_,rfl,vI rfl rfl (SqL.of hw1) at0 (vI rfl rfl (SqL.of ha1) y2 (vF rfl rfl ⟨?_,one,fun e2 k2=>?_⟩))⟩))))
 ·rw[ld1,Dr,zAi,zAi]
  exact By (by show l0.length+1+l1'.length+1<=1000; lia)
 ·rw[Om,Il,Dr,Dr,zAi,zAi,zAi]
  exact By (by show l0.length+1+l1'.length+1+l2.length<=1000; lia)
 have s2:=Ao k2 (.lst [V.str (tx (l0++[46]++l1')++Str.ofString "." ++ tx l2)]);refine⟨la,e2,_,_,rfl,rfl,s2 _ _ ha1,Ac,by rw[zAb,eA]; exact By (by show 3+1<=1000; decide),fun ev k3=>?_⟩;have s3:=s2.trans (Ao k3 (.lst (A.map V.str++[V.str (tx (l0++[46]++l1')++Str.ofString "." ++ tx l2)])));obtain⟨dp,edp⟩:∃ dp:Str,dp=tx (l0++[46]++l1')++Str.ofString "." ++ tx l2:=⟨_,rfl⟩;have h3:upd (upd H' e2 (.lst [V.str (tx (l0++[46]++l1')++Str.ofString "." ++ tx l2)])) ev (.lst (A.map V.str++[V.str (tx (l0++[46]++l1')++Str.ofString "." ++ tx l2)])) ev=some (.lst ((A++[dp]).map V.str)):=by
  rw[Ac,zAp,edp];rfl
 generalize upd (upd H' e2 (.lst [V.str (tx (l0++[46]++l1')++Str.ofString "." ++ tx l2)])) ev (.lst (A.map V.str++[V.str (tx (l0++[46]++l1')++Str.ofString "." ++ tx l2)]))=H3 at s3 h3;refine Dz [some (.int c),some (.ref wl),some (.int u),some (.int r),some (.int n'),some (.int ce'),some (.int dt),some (.int day'),some (.str (tx (l0++[46]++l1'))),some (.ref ev),none] rfl ?_;have S3:=s1.trans s3;have hw3:=S3 _ _ hw;obtain⟨xb,_,yb⟩:=Gu (ns:=B) (i:=r/400%3) (by lia) (by lia);obtain⟨xc,_,yc⟩:=Gu (ns:=C) (i:=r/1200%3) (by lia) (by lia);obtain⟨xe,_,ye⟩:=Gu (ns:=A++[dp]) (i:=r/100%4) (by lia) (by rw[zAi,eA]; show r/100%4<((3+1:Nat):Int); lia);refine (vE rfl (vI rfl rfl (SqL.of hw3) at1 (vE rfl (vF rfl rfl ⟨⟨by decide,by decide⟩,_,_,rfl,rfl,(by show (0:Int)<3; decide),vI rfl rfl (SqL.of (S3 _ _ hb)) yb ?_⟩))));refine Dz [some (.int c),some (.ref wl),some (.int u),some (.int r),some (.int n'),some (.int ce'),some (.int dt),some (.int day'),some (.str (tx (l0++[46]++l1'))),some (.ref ev),some (.str xb)] rfl ?_;refine (vE rfl (vE rfl (vE rfl (vE rfl (vF rfl rfl ⟨⟨by decide,by decide⟩,_,_,rfl,rfl,(by show (0:Int)<4; decide),vI rfl rfl (SqL.of h3) ye (vE rfl (vE rfl (vI rfl rfl (SqL.of hw3) at2 (vE rfl (vF rfl rfl ⟨⟨by decide,by decide⟩,_,_,rfl,rfl,(by show (0:Int)<3; decide),vI rfl rfl (SqL.of (S3 _ _ hc)) yc (vE rfl ⟨By (by show 6<=1000; decide),fun t nt=>?_⟩)⟩)))))⟩)))));exact q t ⟨n',day',xe,xb,xc,ce'⟩ _ (S3.trans (Ao nt _)) (S3.free nt) Ac ce0'
end
def LfsAt (H:Hp):List V->List LF->Prop
 | [],[]=>True
 | x::xs,z::zs=>(∃ t,x = .ref t/\H t=some (.tup z.vs))/\LfsAt H xs zs
 | _,_=>False
theorem LfsAt.len {H:Hp}:∀ {xs:List V} {zs:List LF},LfsAt H xs zs->xs.length=zs.length
 | [],[],_=>rfl
 | [],_::_,h=>h.elim
 | _::_,[],h=>h.elim
 | x::xs,p::ps,h=>by rw[zAg,zAg,LfsAt.len h.2]
theorem LfsAt.mono {H H':Hp} (s:GX H H'):∀ {xs:List V} {zs:List LF},LfsAt H xs zs->LfsAt H' xs zs
 | [],[],_=>trivial
 | [],_::_,h=>h.elim
 | _::_,[],h=>h.elim
 | x::xs,p::ps,⟨⟨t,e,h⟩,r⟩=>⟨⟨t,e,s _ _ h⟩,LfsAt.mono s r⟩
theorem LfsAt.snoc {H:Hp}:∀ {xs:List V} {zs:List LF} {t:Addr} {z:LF},LfsAt H xs zs->H t=some (.tup z.vs)->LfsAt H (xs++[.ref t]) (zs++[z])
 | [],[],t,_,_,h=>⟨⟨t,rfl,h⟩,trivial⟩
 | [],_::_,_,_,r,_=>r.elim
 | _::_,[],_,_,r,_=>r.elim
 | x::xs,p::ps,_,_,⟨z,r⟩,h=>⟨z,LfsAt.snoc r h⟩
theorem LfsAt.get {H:Hp}:∀ {xs:List V} {zs:List LF} {i:Nat} {x:V},LfsAt H xs zs->xs[i]?=some x->∃ t z,zs[i]?=some z/\x = .ref t/\H t=some (.tup (LF.vs z))
 | [],[],_,_,_,e=>by simp at e
 | [],_::_,_,_,h,_=>h.elim
 | _::_,[],_,_,h,_=>h.elim
 | x::xs,p::ps,0,y,⟨⟨t,e,h⟩,r⟩,q=>by
  simp at q;subst q;exact⟨t,p,rfl,e,h⟩
 | x::xs,p::ps,i+1,y,⟨_,r⟩,q=>by
  obtain⟨t,p',h1,h2⟩:=LfsAt.get (i:=i) r (by simpa using q);exact⟨t,p',by simpa using h1,h2⟩
theorem Z1 {ns:List Int} (m:Nat):∃ ms:List Int,Lg (ns.map V.int) none (some (m:Int))=ms.map V.int/\ms.length<=m:=by
 refine⟨ns.take (min m (ns.map V.int).length),?_,by rw[zAt]; lia⟩;unfold Lg;rw[HT.sIx_nat,HT.sIx_none,List.drop_zero,Nat.sub_zero,List.map_take]
def Tt (K:zAa):Sp:=fun vs H Q _=>∃ a ns,∃ m:Nat,∃ u:Int,∃ w A B C D,vs=[.ref a,.int (m:Int),.ref w,.int u]/\SqL K H a (List.map V.int ns)/\ns.length<=63/\m<=63/\Jy u/\WorldAt H w A B C D/\NK A B C D /\
 ∀ r xs zs H',Same H H'->H r=none->H' r=some (.lst xs)->LfsAt H' xs zs->zs.length<=m->(∀ z∈zs,0<z.ct)->Q (.ref r) H'
theorem WorldAt.same {H H':Hp} {w:Addr} {A B C D:List Str} (h:WorldAt H w A B C D) (s:Same H H'):WorldAt H' w A B C D:=by
 obtain⟨a,b,c,d,h0,h1,h2,h3,h4⟩:=h;exact⟨a,b,c,d,s _ _ h0,s _ _ h1,s _ _ h2,s _ _ h3,s _ _ h4⟩
section
variable {P:Program} {w:World} {K:zAa} {mg:Str->Option Value} {base:Heap}
theorem Ug:Bd ["_law_script", "_law_many", "_law_world_here", "_law_unit_here"] ["_law_script", "_law_many", "_law_world_here", "_law_unit_here"] (Ar Hk):=⟨rfl,rfl,rfl,by decide +kernel,rfl,by decide +kernel,by decide +kernel⟩
theorem Tz {f:Addr} {fd:zCy} (F:Fun K "_law_losses" "_law_losses" Hk f fd) (T:Txt K mg) (C_law_loss:Cp P w K mg base 1 "_law_loss" ["_law_cell_here", "_law_world_here", "_law_unit_here"] L8):FnOk P w K mg base Da 2 f fd ["_law_script", "_law_many", "_law_world_here", "_law_unit_here"] (Tt K):=by
 have sc:=Ug;refine F.ok sc (fun vs H Q E h=>?_) (fun cdv A outer s H vs Q E hr h=>?_)
 ·obtain⟨_,_,_,_,_,_,_,_,_,rfl,_⟩:=h
  rfl
 obtain⟨a,ns,m,u,wl,A,B,C,D,rfl,ha,l63,m63,uo,wa,W,q⟩:=h;refine⟨_,(An (Bc (Cn (NC:=["_law_cell_here", "_law_world_here", "_law_unit_here"]) (own:=["_law_cell_here"]) (cs:=["_law_world_here", "_law_unit_here"]) (ix:=[2,3]) rfl (CompScope.of rfl) rfl ⟨⟨rfl,.inl rfl,rfl⟩,⟨⟨rfl,.inl rfl,rfl⟩,trivial⟩⟩ (Bs (Ku Nm (Be Hw (JQ (pv 0) (Wj Pc Al)) (Ce (Aa Al Ai))) No (Oc (pv 1)))) (fun _ _ _=>(Ay (i:=0) (show (["_law_cell_here", "_law_world_here", "_law_unit_here"]:List Str).Nodup from by decide +kernel) rfl (Or.inl rfl))) (fun _ _ _=>Cu) (fun _ _ _=>(Ax C_law_loss (hr.mono (by decide)) rfl (Aa (pv 0) (Aa (pv 1) (Aa (pv 2) Ai)))))))),?_⟩;have one:1<=sizeLine:=by rw[zCw]; decide
 refine (vE rfl (vE rfl ⟨rfl,a,_,rfl,ha,fun l1 k1=>⟨one,fun l2 k2=>?_⟩⟩));have s1:=Ao k1 (.lst (ns.map V.int).reverse);have h1:upd H l1 (.lst (ns.map V.int).reverse) l1=some (.lst (ns.map V.int).reverse):=Ac;generalize upd H l1 (.lst (ns.map V.int).reverse)=H1 at s1 h1 k2;have s2:=Ao k2 (.lst [V.int 0]);have h2:upd H1 l2 (.lst [V.int 0]) l2=some (.lst [V.int 0]):=Ac;generalize upd H1 l2 (.lst [V.int 0])=H2 at s2 h2;refine⟨l1,l2,_,_,rfl,rfl,s2 _ _ h1,h2,by rw[List.length_reverse,zAb]; exact By (by show ns.length+1<=1000; lia),fun l3 k3=>?_⟩;have e3:(ns.map V.int).reverse++[V.int 0]=(ns.reverse++[0]).map V.int:=by rw[zAp,List.map_reverse]; rfl
 rw[e3];have s3:=Ao k3 (.lst ((ns.reverse++[0]).map V.int));have h3:upd H2 l3 (.lst ((ns.reverse++[0]).map V.int)) l3=some (.lst ((ns.reverse++[0]).map V.int)):=Ac;generalize upd H2 l3 (.lst ((ns.reverse++[0]).map V.int))=H3 at s3 h3;refine (vE rfl (vE rfl ⟨l3,_,rfl,SqL.of h3,fun l4 k4=>?_⟩));obtain⟨ms,ems,lms⟩:=Z1 (ns:=ns.reverse++[0]) m;rw[ems];have s4:=Ao k4 (.lst (ms.map V.int));have h4:upd H3 l4 (.lst (ms.map V.int)) l4=some (.lst (ms.map V.int)):=Ac;generalize upd H3 l4 (.lst (ms.map V.int))=H4 at s4 h4;have S4:=s1.trans (s2.trans (s3.trans s4));have lm:(ms.map V.int).length=ms.length:=zAb _;refine⟨l4,rfl,⟨_,SqL.of h4⟩,fun r nr=>?_⟩;refine Bz (K:=K) (a:=l4) (xs:=ms.map V.int) (fun i ys H5=>(∃ zs,LfsAt H5 ys zs/\zs.length=i/\∀ z∈zs,0<z.ct)/\H5 r=some (.lst ys)/\Same H4 H5) ⟨⟨[],trivial,rfl,fun _ y=>nomatch y⟩,Ac,Ao nr _⟩
  (fun i ys H5 _ ⟨⟨zs,x1,x2,_⟩,x4,x5⟩=>⟨x4,by rw[x1.len,x2]; exact zAl _,SqL.of (x5 _ _ h4)⟩) (by rw[lm,zCw]; lia) (fun i x ys H5 hi ⟨⟨zs,x1,x2,x3⟩,x4,x5⟩=>?_) (fun ys H5 ⟨⟨zs,x1,x2,x3⟩,x4,x5⟩=>?_)
 ·rw[zAs] at hi
  obtain⟨c,_,rfl⟩:=zAI.mp hi;refine (vE rfl (vE rfl (vE rfl ⟨c,u,wl,A,B,C,D,rfl,uo,wa.same (S4.trans x5),W,fun t z H6 s6 nt ht z0=>?_⟩)));refine⟨s6 _ _ x4,rfl,⟨zs++[z],((x1.mono (Bq s6)).snoc ht).mono (Dm (s6 _ _ x4) _),by rw[zAi,x2]; rfl,fun y hy=>?_⟩,Ac,fun b o y=>?_⟩
  ·rcases zAz.mp hy with g | g
   ·exact x3 y g
   ·rw[zAo.mp g]; exact z0
  ·rw[Aw (Aq y nr)]
   exact s6 _ _ (x5 b o y)
 exact q r ys zs H5 (S4.trans x5) (S4.free nr) x4 x1 (by lia) x3
def Xt:Sp:=fun vs H Q _=>∃ nm a ys S,∃ i:Int,vs=[.ref a,.str nm,.int i]/\H a=some (.lst ys)/\Sts H ys S/\S.length<=900/\(∀ s∈S,s.1<s.2.1/\s.2.1<=i/\-1<=s.2.2.2)/\∀ H',Same H H'->Q (.int (Cz nm S).sum) H'
theorem Ye:Bd ["_law_strips", "_law_name", "_law_i"] ["_law_strips", "_law_name", "_law_i"] (Ar Kt):=⟨rfl,rfl,rfl,by decide +kernel,rfl,by decide +kernel,by decide +kernel⟩
theorem Yl {f:Addr} {fd:zCy} (F:Fun K "_law_paid" "_law_paid" Kt f fd) (T:Txt K mg):FnOk P w K mg base Da 1 f fd ["_law_strips", "_law_name", "_law_i"] Xt:=by
 have sc:=Ye;refine F.ok sc (fun vs H Q E h=>?_) (fun cdv A outer s H vs Q E hr h=>?_)
 ·obtain⟨_,_,_,_,_,rfl,_⟩:=h
  rfl
 obtain⟨nm,a,ys,S,c,rfl,ha,sts,l9,bd,q⟩:=h;refine⟨_,(An (Bc (Bo (Js rfl) rfl T.n_sum (show zCx _=some (.builtin "sum") from rfl) (Aa (Cn (NC:=["_law_lo", "_law_hi", "_law_who", "_law_k", "_law_i", "_law_name"]) (own:=["_law_lo", "_law_hi", "_law_who", "_law_k"]) (cs:=["_law_i", "_law_name"]) (ix:=[2,1]) rfl (CompScope.of rfl) rfl ⟨⟨rfl,.inl rfl,rfl⟩,⟨⟨rfl,.inl rfl,rfl⟩,trivial⟩⟩ (Bs (pv 0)) (fun _ _ _=>(Ri (K:=K) (n:=4) rfl rfl (Bm (Ay (i:=0) (show (["_law_lo", "_law_hi", "_law_who", "_law_k", "_law_i", "_law_name"]:List Str).Nodup from by decide +kernel) rfl (Or.inl rfl)) (Bm (Ay (i:=1) (show (["_law_lo", "_law_hi", "_law_who", "_law_k", "_law_i", "_law_name"]:List Str).Nodup from by decide +kernel) rfl (Or.inl rfl)) (Bm (Ay (i:=2) (show (["_law_lo", "_law_hi", "_law_who", "_law_k", "_law_i", "_law_name"]:List Str).Nodup from by decide +kernel) rfl (Or.inl rfl)) (Bm (Ay (i:=3) (show (["_law_lo", "_law_hi", "_law_who", "_law_k", "_law_i", "_law_name"]:List Str).Nodup from by decide +kernel) rfl (Or.inl rfl)) Di)))))) (fun _ _ _=>(Gd (PW.pt (Jk (Bi Cf (pv 2) (pv 5) (Bl _)) (Jk (Bi Gx (pv 3) Al (Bl _)) (Hg (Bi Gx (pv 0) (pv 4) (Bl _)))))))) (fun _ _ _=>(Be Ji (Bo (Ih rfl) rfl T.n_min (show zCx _=some (.builtin "min") from rfl) (Aa (pv 1) (Aa (pv 4) Ai))) (pv 0)))) Ai)))),?_⟩;have ly:=sts.len;refine (vE rfl ⟨a,rfl,⟨_,SqL.of ha⟩,fun r nr=>?_⟩);refine Sf (K:=K) (a:=a) (xs:=ys) (fun i zs H2=>zs=(Cz nm (S.take i)).map V.int/\H2 r=some (.lst zs)/\Same H H2) ⟨rfl,Ac,Ao nr _⟩
  (fun i zs H2 _ ⟨e,h1,s2⟩=>⟨h1,by rw[e,zAb]; unfold Cz; rw[zAb]; exact zAE (zAG _ _) (by rw[zAt]; lia),SqL.of (s2 _ _ ha)⟩) (by rw[zCw]; lia) (fun i x zs H2 hi ⟨e,h1,s2⟩=>?_) (fun zs H2 ⟨e,h1,s2⟩=>?_)
 ·obtain⟨t,p,hp,rfl,ht⟩:=sts.get hi
  obtain⟨b1,b2,b3⟩:=bd p (zAB hp);refine⟨t,_,_,_,_,rfl,SqT.of (s2 _ _ ht),?_⟩;have es:Cz nm (S.take (i+1))=Cz nm (S.take i)++if Kg nm p=true then [p.2.1-p.1] else []:=by
   unfold Cz;rw[Bu hp,zBD,zAp];by_cases c:Kg nm p=true
   ·rw[if_pos c,zBn c,zBi]; rfl
   ·rw[if_neg c,zBo c,zBi]; rfl
  by_cases c1:p.2.2.1=nm
  ·refine (vE rfl (vE rfl ⟨rfl,vE rfl (dT (congrArg V.str c1) (vE rfl (vF rfl rfl (vE rfl ?_))))⟩))
   by_cases c2:p.2.2.2 = -1
   ·refine dT (by lia) (vE rfl (vE rfl (vF rfl rfl (vE rfl (dT (by lia) ?_)))))
    have c':Kg nm p=true:=by unfold Kg; rw[decide_eq_true c1,decide_eq_true c2]; rfl
    refine (vE rfl (vE rfl ⟨_,_,rfl,vE rfl (vF rfl rfl ⟨h1,rfl,?_,Ac,fun b o z=>?_⟩)⟩))
    ·rw[es,if_pos c',zAp,e,if_neg (by lia)]
     rfl
    ·rw[Aw (Aq z nr)]
     exact s2 b o z
   ·have c':¬ Kg nm p=true:=by unfold Kg; rw[decide_eq_false c2,zBI]; exact zAm
    refine dF (by lia) (Dj ⟨rfl,?_,h1,s2⟩);rw[es,if_neg c',zAU,e]
  ·refine (vE rfl (vE rfl ⟨rfl,vE rfl (dF (fun y=>c1 (V.str.inj y)) ?_)⟩))
   have c':¬ Kg nm p=true:=by unfold Kg; rw[decide_eq_false c1,zBH]; exact zAm
   refine Dj ⟨rfl,?_,h1,s2⟩;rw[es,if_neg c',zAU,e]
 rw[ly,zAw] at e;subst e;exact⟨r,_,rfl,SqL.of h1,q H2 s2⟩
end
def BP (CC CO CL CM:Addr):Sp:=fun vs H Q _=>∃ t r,vs=[.ref t]/\H t=some (.tup (IC r))/\LK r/\∀ p H',Same H H'->H p=none->ClAt CC CO CL CM H' p (Dw r)->Q (.ref p) H'
section
variable {P:Program} {w:World} {K:zAa} {mg:Str->Option Value} {base:Heap} {Ab Ag Af Am At Ba Az As Ad Au Ak Ah Bg Aj Bb Ap:Addr}
theorem Sb:Bd ["_law_clause_here", "_law_word", "_law_by", "_law_low", "_law_high"] ["_law_clause_here"] (Ar Hn):=⟨rfl,rfl,rfl,by decide +kernel,rfl,by decide +kernel,by decide +kernel⟩
theorem Tc {f:Addr} {fd:zCy} (F:Fun K "_law_clause" "_law_clause" Hn f fd) (T:Txt K mg) (KOwn:Es P w K mg base 4 "Own" Au ["self", "by", "cents"] (FD Ad Au Ak Ah)) (KLayer:Es P w K mg base 4 "Layer" Ak ["self", "by", "first", "upto"] (DH Ad Au Ak Ah)) (KLimit:Es P w K mg base 4 "Limit" Ah ["self", "by", "most"] (CP Ad Au Ak Ah)) :
  FnOk P w K mg base Da 6 f fd ["_law_clause_here"] (BP Ad Au Ak Ah):=by
 have sc:=Sb;refine F.ok sc (fun vs H Q E h=>?_) (fun cdv A outer s H vs Q E hr h=>?_)
 ·obtain⟨_,_,rfl,_⟩:=h
  rfl
 obtain⟨t,⟨wd,y,lo,hi⟩,rfl,ht,⟨hw,wy,⟨m0,m1⟩,lay⟩,q⟩:=h;refine⟨_,(Ae (O6 (pv 0) (Ez (n:=4) rfl (Bm (Ay (i:=1) sc.nd rfl (Or.inl rfl)) (Bm (Ay (i:=2) sc.nd rfl (Or.inl rfl)) (Bm (Ay (i:=3) sc.nd rfl (Or.inl rfl)) (Bm (Ay (i:=4) sc.nd rfl (Or.inl rfl)) Di))))))
   (Ae (Bt (Bi Cf (pv 1) Br (Bl _))
    (An (Bc (Dp KOwn (hr.mono (by decide)) rfl (Aa (pv 2) (Aa (pv 3) Ai)))))
    Bk)
   (Ae (Bt (Bi Cf (pv 1) Br (Bl _))
    (An (Bc (Dp KLayer (hr.mono (by decide)) rfl (Aa (pv 2) (Aa (pv 3) (Aa (pv 4) Ai))))))
    Bk)
   (An (Bc (Dp KLimit (hr.mono (by decide)) rfl (Aa (pv 2) (Aa (pv 3) Ai)))))))),?_⟩
 have m0:0<=lo:=m0;have m1:lo<=120000000230:=m1;refine (vE rfl ⟨t,_,rfl,SqT.of ht,rfl,vC rfl (vC rfl (vC rfl (vC rfl (⟨rfl,?_⟩))))⟩);refine (vE rfl ⟨rfl,vE rfl ?_⟩);by_cases c1:wd = "own"
 ·refine dT (congrArg V.str c1) (vE rfl (vE rfl (fun p dx np ndx nex=>⟨p,dx,y,lo,rfl,Ac,wy,⟨m0,by lia⟩,fun H2 kp D=>⟨rfl,q p H2 (Fk np ndx kp) np ?_⟩⟩)))
  unfold Dw;rw[if_pos (by exact c1)];exact D
 refine dF (fun e=>c1 (V.str.inj e)) (vE rfl ⟨rfl,vE rfl ?_⟩);by_cases c2:wd = "layer"
 ·obtain⟨q1,q2⟩:=lay c2
  have q1:lo<hi:=q1;have q2:hi<=240000000461:=q2;refine dT (congrArg V.str c2) (vE rfl (vE rfl (vE rfl (fun p dx np ndx nex=>⟨p,dx,y,lo,hi,rfl,Ac,wy,⟨m0,by lia⟩,⟨by lia,by lia⟩,q1,fun H2 kp D=>⟨rfl,q p H2 (Fk np ndx kp) np ?_⟩⟩))));unfold Dw;rw[if_neg (by exact c1),if_pos (by exact c2)];exact D
 ·refine dF (fun e=>c2 (V.str.inj e)) (vE rfl (vE rfl (fun p dx np ndx nex=>⟨p,dx,y,lo,rfl,Ac,wy,⟨m0,by lia⟩,fun H2 kp D=>⟨rfl,q p H2 (Fk np ndx kp) np ?_⟩⟩)))
  unfold Dw;rw[if_neg (by exact c1),if_neg (by exact c2)];exact D
end
structure Rwc where
 p:Addr
 nm:Str
 t:Gc
 rs:List EQ
 wt:Bool
def Uv (r:Rwc):V:=.ref r.p
def RwcAt (H:Hp) (r:Rwc):Prop:=∃ tv cl hl ht xs,H r.p=some (.tup [.str r.nm,tv,.ref cl,.ref hl,.bl r.wt])/\TrAt H tv r.t/\H cl=some (.lst xs)/\TsAt IC H xs r.rs/\H hl=some (.lst [.ref ht])/\H ht=some (.tup [.str "h",.int 1])
structure Qf (r:Rwc):Prop where
 hg:Mv r.t<3
 ok:Ls Ox r.t
 l3:r.rs.length<=3
 oc:∀ c∈r.rs,LK c
theorem RwcAt.same {H H':Hp} {r:Rwc} (h:RwcAt H r) (s:Same H H'):RwcAt H' r:=by
 obtain⟨tv,cl,hl,ht,xs,h1,h2,h3,h4,h5,h6⟩:=h;exact⟨tv,cl,hl,ht,xs,s _ _ h1,h2.same s,s _ _ h3,h4.mono (Bq s),s _ _ h5,s _ _ h6⟩
def P8 (K:zAa):Sp:=fun vs H Q _=>∃ a ns nl th ca,∃ u:Int,∃ B C D:List Str,vs=[.ref a,.ref nl,.ref th,.ref ca,.int u]/\SqL K H a (List.map V.int ns)/\ns.length<=63/\Jy u/\H nl=some (.lst (D.map V.str))/\H th=some (.lst (B.map V.str))/\H ca=some (.lst (C.map V.str))/\B.length=3/\C.length=3/\(∀ z∈B,N5 z)/\(∀ z∈C,N5 z)/\D.length<=5 /\
 ∀ r (rows:List Rwc) H',Same H H'->H r=none->H' r=some (.lst (rows.map Uv))->(∀ x∈rows,RwcAt H' x/\Qf x)->rows.map (·.nm)=D->Q (.ref r) H'
section
seal L2.PS L2.PSs L2.PE L2.PA
variable {P:Program} {w:World} {K:zAa} {mg:Str->Option Value} {base:Heap}
theorem Tv:Bd ["_law_script", "_law_names_here", "_law_things", "_law_causes", "_law_unit_here", "_law_covers_here", "_law_c", "_law_shape", "_law_clauses", "_law_k", "_law_cond_here"] ["_law_script", "_law_names_here", "_law_things", "_law_causes", "_law_unit_here"] (Ar Hl):=⟨rfl,rfl,rfl,by decide +kernel,rfl,by decide +kernel,by decide +kernel⟩
theorem Ud {f:Addr} {fd:zCy} (F:Fun K "_law_covers" "_law_covers" Hl f fd) (T:Txt K mg) (C_law_cell:Cp P w K mg base 1 "_law_cell" ["_law_script", "_law_k"] (Ts K)) (C_law_spread:Cp P w K mg base 1 "_law_spread" ["_law_cell_here"] Jr)
  (C_law_drawn_clause:Cp P w K mg base 2 "_law_drawn_clause" ["_law_cell_here", "_law_unit_here"] LB) (C_law_cond:Cp P w K mg base 2 "_law_cond" ["_law_cell_here", "_law_things", "_law_causes", "_law_unit_here"] P4) :
  FnOk P w K mg base Da 3 f fd ["_law_script", "_law_names_here", "_law_things", "_law_causes", "_law_unit_here"] (P8 K):=by
 have sc:=Tv;refine F.ok sc (fun vs H Q E h=>?_) (fun cdv A outer s H vs Q E hr h=>?_)
 ·obtain⟨_,_,_,_,_,_,_,_,_,rfl,_⟩:=h
  rfl
 obtain⟨a,ns,nl,th,ca,u,B,C,D,rfl,ha,l63,uo,hnl,hth,hca,lB,lC,nB,nC,d5,q⟩:=h;refine⟨_,(Ae (Bh (i:=5) sc.nd rfl (Or.inl rfl) (Ce Ai))
   (Ae (Cj PassesOwn.never rfl (Do rfl T.n_range (Aa (Bo Ci rfl T.n_len (show zCx _=some (.builtin "len") from rfl) (Aa (pv 1) Ai)) Ai)) (Ay (i:=6) sc.nd rfl (Or.inl rfl))
    (Ae (Bh (i:=7) sc.nd rfl (Or.inl rfl) (Ax C_law_spread (hr.mono (by decide)) rfl (Aa (Ax C_law_cell (hr.mono (by decide)) rfl (Aa (pv 0) (Aa (Be Cq Al (Be Fl Al (pv 6))) Ai))) Ai)))
   (Ae (Bh (i:=8) sc.nd rfl (Or.inl rfl) (Ce Ai))
   (Ae (Cj PassesOwn.never rfl (Do rfl T.n_range (Aa (Be Cb (Be Ca (pv 7) Al) Al) Ai)) (Ay (i:=9) sc.nd rfl (Or.inl rfl))
    (An (Ct (Hd PySem.F.plainAttrs_list PySem.F.slot_list_append PySem.F.type_list_append Dv (pv 8) (Aa (Ax C_law_drawn_clause (hr.mono (by decide)) rfl (Aa (Ax C_law_spread (hr.mono (by decide)) rfl (Aa (Ax C_law_cell (hr.mono (by decide)) rfl (Aa (pv 0) (Aa (Be Cq (Be Cq Al (Be Fl Al (pv 6))) (pv 9)) Ai))) Ai)) (Aa (pv 4) Ai))) Ai)))))
   (Ae (Bh (i:=10) sc.nd rfl (Or.inl rfl) (Ax C_law_cond (hr.mono (by decide)) rfl (Aa (Be Ca (pv 7) Al) (Aa (pv 2) (Aa (pv 3) (Aa (pv 4) Ai))))))
   (An (Ct (Hd PySem.F.plainAttrs_list PySem.F.slot_list_append PySem.F.type_list_append Dv (pv 5) (Aa (Cc (Aa (Bf Bp (pv 1) (pv 6) (fun _ _=>rfl)) (Aa (pv 10) (Aa (pv 8) (Aa (Ce (Aa (Cc (Aa Br (Aa Al Ai))) Ai)) (Aa (Dq Cf (Be Cb (pv 7) Al) Al (Bl _)) Ai)))))) Ai)))))))))
   (An (Bc (pv 5))))),?_⟩
 have one:1<=sizeLine:=by rw[zCw]; decide
 have two:2<=sizeLine:=by rw[zCw]; decide
 have lm:(D.map V.str).length=D.length:=zAb _;refine⟨zAA _,fun cl ncl=>?_⟩;refine Dz [some (.ref a),some (.ref nl),some (.ref th),some (.ref ca),some (.int u),some (.ref cl),none,none,none,none,none] rfl ?_;have s1:=Ao ncl (.lst []);have h1:upd H cl (.lst []) cl=some (.lst []):=Ac;generalize upd H cl (.lst [])=H1 at s1 h1;refine (vE rfl ⟨nl,_,rfl,.inl (SqL.of (s1 _ _ hnl)),vE rfl ⟨by rw[lm]; lia,by rw[lm]; lia,?_⟩⟩);rw[show (((D.map V.str).length:Int)).toNat=D.length by rw[lm]; lia];refine Ep (lo:=0) (n:=D.length) (fun i σ H2=>(∃ o6 o7 o8 o9 o10,σ=[some (.ref a),some (.ref nl),some (.ref th),some (.ref ca),some (.int u),some (.ref cl),o6,o7,o8,o9,o10])/\(∃ rows:List Rwc,H2 cl=some (.lst (rows.map Uv))/\(∀ x∈rows,RwcAt (Off cl H2) x/\Qf x)/\rows.map (·.nm)=D.take i)/\Same H H2)
  ⟨⟨none,none,none,none,none,rfl⟩,⟨[],h1,(fun x hx=>nomatch hx),by rw[zBJ]; rfl⟩,s1⟩ ?_ ?_
 ·rintro i σ H2 hi ⟨⟨o6,o7,o8,o9,o10,rfl⟩,⟨rows,hrows,okr,enm⟩,s2⟩
  refine Dz [some (.ref a),some (.ref nl),some (.ref th),some (.ref ca),some (.int u),some (.ref cl),some (.int (0+(i:Int))),o7,o8,o9,o10] rfl ?_;refine (vE rfl (vE rfl (vF rfl rfl ⟨.inl ⟨by decide,by decide⟩,vF rfl rfl ⟨a,ns,_,rfl,s2.seq ha,by lia,l63,vE rfl (fun r r0 r1=>?_)⟩⟩)));refine Dz [some (.ref a),some (.ref nl),some (.ref th),some (.ref ca),some (.int u),some (.ref cl),some (.int (0+(i:Int))),some (.int r),o8,o9,o10] rfl ?_;refine⟨zAA _,fun kl nkl=>?_⟩;refine Dz [some (.ref a),some (.ref nl),some (.ref th),some (.ref ca),some (.int u),some (.ref cl),some (.int (0+(i:Int))),some (.int r),some (.ref kl),o9,o10] rfl ?_;obtain⟨m,em,m3⟩:∃ m:Nat,r/4%4=(m:Int)/\m<=3:=⟨(r/4%4).toNat,by lia,by lia⟩;refine (vE rfl (vF rfl rfl ⟨⟨by decide,by decide⟩,_,_,rfl,rfl,(by show (0:Int)<4; decide),_,rfl,by lia,by lia,?_⟩));rw[show (r/4%4).toNat=m by lia];refine Ep (lo:=0) (n:=m) (fun j σ H4=>(∃ o9,σ=[some (.ref a),some (.ref nl),some (.ref th),some (.ref ca),some (.int u),some (.ref cl),some (.int (0+(i:Int))),some (.int r),some (.ref kl),o9,o10])/\(∃ xs,∃ rs:List EQ,H4 kl=some (.lst xs)/\TsAt IC H4 xs rs/\rs.length=j/\∀ c∈rs,LK c)/\Same H2 H4)
   ⟨⟨o9,rfl⟩,⟨[],[],Ac,trivial,rfl,fun c hc=>nomatch hc⟩,Ao nkl _⟩ ?_ ?_
  ·rintro j σ H4 hj ⟨⟨o9,rfl⟩,⟨xs,rs,hkl,ts,lr,okc⟩,s4⟩
   refine Dz [some (.ref a),some (.ref nl),some (.ref th),some (.ref ca),some (.int u),some (.ref cl),some (.int (0+(i:Int))),some (.int r),some (.ref kl),some (.int (0+(j:Int))),o10] rfl ?_;refine (vE rfl ⟨.inl ⟨rfl,_,SqL.of hkl⟩,vE rfl (vE rfl (vF rfl rfl ⟨.inl ⟨by decide,by decide⟩,vF rfl rfl (vE rfl (vF rfl rfl ⟨a,ns,_,rfl,(s2.trans s4).seq ha,by lia,l63,vE rfl (fun r' r0' r1'=>(vE rfl ⟨r',u,rfl,r0',uo,fun t c H5 s5 nt ht okc'=>⟨kl,_,_,rfl,rfl,s5 _ _ hkl,?_,?_⟩⟩))⟩))⟩))⟩)
   ·rw[ts.len,zCw]; lia
   ·refine⟨⟨_,rfl⟩,⟨xs++[.ref t],rs++[c],Ac,((ts.mono (Bq s5)).snoc ht).mono (Dm (s5 _ _ hkl) _),by rw[zAi,lr]; rfl,fun y hy=>?_⟩,fun b o y=>?_⟩
    ·rcases zAz.mp hy with g | g
     ·exact okc y g
     ·rw[zAo.mp g]; exact okc'
    ·rw[Aw (Aq y nkl)]
     exact s5 _ _ (s4 b o y)
  ·rintro σ H4 ⟨⟨o9,rfl⟩,⟨xs,rs,hkl,ts,lr,okc⟩,s4⟩
   have S4:=s2.trans s4;refine (vE rfl (vF rfl rfl ⟨⟨by decide,by decide⟩,_,rfl,vE rfl (vE rfl ⟨_,u,th,ca,B,C,rfl,by lia,uo,S4 _ _ hth,S4 _ _ hca,lB,lC,nB,nC,fun v t H5 s5 tr hg okt=>?_⟩)⟩));refine Dz [some (.ref a),some (.ref nl),some (.ref th),some (.ref ca),some (.int u),some (.ref cl),some (.int (0+(i:Int))),some (.int r),some (.ref kl),o9,some v] rfl ?_;have S5:=S4.trans s5;have hrows5:=s5 _ _ (s4 _ _ hrows);have en:D[i]?=some D[i]:=zAe hi;generalize D[i]=z at en;have ez:Of (D.map V.str) (0+(i:Int))=some (.str z):=by
    rw[show (0+(i:Int))=(i:Int) by lia];refine Ge ?_;rw[zAs,en];rfl
   refine (vE rfl ⟨.inl ⟨rfl,_,SqL.of hrows5⟩,vE rfl (vE rfl (vI rfl rfl (SqL.of (S5 _ _ hnl)) ez (vE rfl (vE rfl ⟨two,fun ht nht=>?_⟩))))⟩);have s6:=Ao nht (.tup [V.str "h",.int 1]);have h6:upd H5 ht (.tup [V.str "h",.int 1]) ht=some (.tup [V.str "h",.int 1]):=Ac;generalize upd H5 ht (.tup [V.str "h",.int 1])=H6 at s6 h6;refine⟨one,fun hl nhl=>?_⟩;have s7:=Ao nhl (.lst [V.ref ht]);have h7:upd H6 hl (.lst [V.ref ht]) hl=some (.lst [V.ref ht]):=Ac;generalize upd H6 hl (.lst [V.ref ht])=H7 at s7 h7;refine (vE rfl (vF rfl rfl ⟨(by show (0:Int)<4; decide),rfl,By (by show 5<=1000; decide),fun tp ntp=>?_⟩));generalize decide (V.int (r%4)=V.int 1)=wb;have s8:=Ao ntp (.tup [V.str z,v,.ref kl,.ref hl,.bl wb]);have h8:upd H7 tp (.tup [V.str z,v,.ref kl,.ref hl,.bl wb]) tp=some (.tup [V.str z,v,.ref kl,.ref hl,.bl wb]):=Ac;generalize upd H7 tp (.tup [V.str z,v,.ref kl,.ref hl,.bl wb])=H8 at s8 h8;have S8:=s6.trans (s7.trans s8);have hrows8:=S8 _ _ hrows5;have lrows:rows.length=i:=by
    have:=congrArg List.length enm;rw[zAb,zAt] at this
    lia
   refine⟨cl,_,_,rfl,rfl,hrows8,by rw[zAb,zCw]; lia,?_⟩;have eapp:rows.map Uv++[V.ref tp]=(rows++[Rwc.mk tp z t rs wb]).map Uv:=by rw[zAp]; rfl
   rw[eapp];have nclk:kl≠cl:=(Aq hrows nkl).symm;have nhtc:ht≠cl:=(Aq hrows5 nht).symm;have nhlc:hl≠cl:=(Aq (s6 _ _ hrows5) nhl).symm;have ntpc:tp≠cl:=(Aq (s7 _ _ (s6 _ _ hrows5)) ntp).symm;have up:∀ {b:Addr} {o:HO},b≠cl->H8 b=some o->Off cl (upd H8 cl (.lst ((rows++[Rwc.mk tp z t rs wb]).map Uv))) b=some o:=fun n y=>Off.of n (by rw[Aw n]; exact y);have S28:=s4.trans (s5.trans S8);refine⟨⟨_,_,_,_,_,rfl⟩,⟨_,Ac,fun x hx=>?_,?_⟩,fun b o y=>?_⟩
   ·rcases zAz.mp hx with g | g
    ·obtain⟨y1,y2⟩:=okr x g
     exact⟨y1.same fun b o y=>up (Off.at y).1 (S28 _ _ (Off.at y).2),y2⟩
    ·rw[zAo.mp g]
     refine⟨⟨v,kl,hl,ht,xs,up ntpc h8,TrAt.same (fun b o y=>?_) _ tr,up nclk (S8 _ _ (s5 _ _ hkl)),ts.mono fun b o y=>?_,up nhlc (s8 _ _ h7),up nhtc (s8 _ _ (s7 _ _ h6))⟩,⟨hg,okt,by show rs.length<=3; lia,okc⟩⟩
     ·obtain⟨y1,y2⟩:=Nw.at y
      exact up (fun e=>by rw[e,s4 _ _ hrows] at y1; cases y1) (S8 _ _ y2)
     ·have y':=S8 _ _ (s5 _ _ y)
      exact up (Eu y' hrows8 (by intro e; cases e)) y'
   ·rw[zAp,enm,Bu en]
    rfl
   ·rw[Aw (Aq y ncl)]
    exact S8 _ _ (S5 b o y)
 ·rintro σ H2 ⟨⟨o6,o7,o8,o9,o10,rfl⟩,⟨rows,hrows,okr,enm⟩,s2⟩
  rw[zAw] at enm;exact (vE rfl (q cl rows H2 s2 ncl hrows (fun x hx=>⟨(okr x hx).1.same fun b o y=>(Off.at y).2,(okr x hx).2⟩) enm))
end
def Sk (z:LF) (rows:List Rwc):List Rwc:=rows.filter (fun r => !r.wt&&hT r.t z.ls)++rows.filter (fun r=>r.wt&&hT r.t z.ls)
def N3:Sp:=fun vs H Q _=>∃ a l,∃ rows:List Rwc,∃ z,vs=[.ref a,.ref l]/\H a=some (.lst (rows.map Uv))/\(∀ x∈rows,RwcAt H x/\Qf x)/\rows.length<=60/\H l=some (.tup (LF.vs z))/\∀ r H',Same H H'->H r=none->H' r=some (.lst ((Sk z rows).map Uv))->Q (.ref r) H'
section
variable {P:Program} {w:World} {K:zAa} {mg:Str->Option Value} {base:Heap}
theorem Us:Bd ["_law_covers_here", "_law_loss_here", "_law_firm"] ["_law_covers_here", "_law_loss_here"] (Ar Iz):=⟨rfl,rfl,rfl,by decide +kernel,rfl,by decide +kernel,by decide +kernel⟩
theorem Uy {f:Addr} {fd:zCy} (F:Fun K "_law_asked" "_law_asked" Iz f fd) (T:Txt K mg) (C_law_holds:Cp P w K mg base 4 "_law_holds" ["_law_cond_here", "_law_loss_here"] (FW 4)) :
  FnOk P w K mg base Da 5 f fd ["_law_covers_here", "_law_loss_here"] N3:=by
 have sc:=Us;refine F.ok sc (fun vs H Q E h=>?_) (fun cdv A outer s H vs Q E hr h=>?_)
 ·obtain⟨_,_,_,_,rfl,_⟩:=h
  rfl
 obtain⟨a,l,rows,z,rfl,ha,all,l60,hl,q⟩:=h;refine⟨_,(Ae (Ik (NC:=["_law_cover", "_law_loss_here"]) (own:=["_law_cover"]) (cs:=["_law_loss_here"]) (ix:=[1]) (j:=2) sc.nd rfl rfl rfl (CompScope.of rfl) rfl ⟨⟨rfl,.inl rfl,rfl⟩,trivial⟩ (Bs (pv 0)) (fun _ _ _=>(Ay (i:=0) (show (["_law_cover", "_law_loss_here"]:List Str).Nodup from by decide +kernel) rfl (Or.inl rfl))) (fun _ _ _=>(Gd (PW.pt (Jk (Df (Cr (Bf (Dd (K:=K) rfl) (pv 0) Al (fun _ _=>rfl)))) (Hg (Cr (Ax C_law_holds (hr.mono (by decide)) rfl (Aa (Bf (Dd (K:=K) rfl) (pv 0) Al (fun _ _=>rfl)) (Aa (pv 1) Ai))))))))) (fun _ _ _=>(pv 0)))
   (An (Bc (Be Hw (pv 2) (Cn (NC:=["_law_cover", "_law_loss_here"]) (own:=["_law_cover"]) (cs:=["_law_loss_here"]) (ix:=[1]) rfl (CompScope.of rfl) rfl ⟨⟨rfl,.inl rfl,rfl⟩,trivial⟩ (Bs (pv 0)) (fun _ _ _=>(Ay (i:=0) (show (["_law_cover", "_law_loss_here"]:List Str).Nodup from by decide +kernel) rfl (Or.inl rfl))) (fun _ _ _=>(Gd (PW.pt (Jk (Cr (Bf (Dd (K:=K) rfl) (pv 0) Al (fun _ _=>rfl))) (Hg (Cr (Ax C_law_holds (hr.mono (by decide)) rfl (Aa (Bf (Dd (K:=K) rfl) (pv 0) Al (fun _ _=>rfl)) (Aa (pv 1) Ai))))))))) (fun _ _ _=>(pv 0))))))),?_⟩
 have lm:(rows.map Uv).length=rows.length:=zAb _;refine (vE rfl ⟨a,rfl,⟨_,SqL.of ha⟩,fun fi nfi=>?_⟩);refine Bz (K:=K) (a:=a) (xs:=rows.map Uv) (fun i ys H2=>ys=((rows.take i).filter fun r => !r.wt&&hT r.t z.ls).map Uv/\H2 fi=some (.lst ys)/\Same H H2) ⟨rfl,Ac,Ao nfi _⟩
  (fun i ys H2 _ ⟨e,h1,s2⟩=>⟨h1,by rw[e,zAb]; exact zAE (zAG _ _) (by rw[zAt]; lia),SqL.of (s2 _ _ ha)⟩) (by rw[zCw]; lia) (fun i x ys H2 hi ⟨e,h1,s2⟩=>?_) (fun ys H2 ⟨e,hf2,s2⟩=>?_)
 ·rw[zAs] at hi
  obtain⟨r,hx,rfl⟩:=zAI.mp hi;have mx:=zAB hx;obtain⟨rat,rok⟩:=all r mx;obtain⟨tv,cl,hl',ht',xs,g1,g2,_⟩:=rat.same s2;have es:=Kx (f:=fun r:Rwc => !r.wt&&hT r.t z.ls) hx;refine (vE rfl (vI rfl rfl (SqT.of g1) rfl (vE rfl ?_)));cases cw:r.wt with
  | true=>
   refine Dj (Dj ⟨rfl,?_,h1,s2⟩);rw[es,e,cw];simp
  | false=>
   refine Kb (vE rfl (vI rfl rfl (SqT.of g1) rfl (vE rfl ⟨tv,r.t,l,z.ls,rfl,g2,by have:=rok.hg; lia,rok.ok,CS (s2 _ _ hl),fun H5 s5=>(vE rfl ?_)⟩)));cases ch:hT r.t z.ls with
   | true=>
    refine Kb (vE rfl ⟨s5 _ _ h1,rfl,?_,Ac,Ew nfi (s2.trans s5)⟩);rw[es,e,cw,ch];simp [Uv]
   | false=>
    refine Dj ⟨rfl,?_,s5 _ _ h1,s2.trans s5⟩;rw[es,e,cw,ch];simp
 rw[lm,zAw] at e;subst e;refine Dz [some (.ref a),some (.ref l),some (.ref fi)] rfl ?_;have ha2:=s2 _ _ ha;refine (vE rfl (vE rfl ⟨a,rfl,⟨_,SqL.of ha2⟩,fun wa nwa=>?_⟩));refine Bz (K:=K) (a:=a) (xs:=rows.map Uv) (fun i ys H3=>ys=((rows.take i).filter fun r=>r.wt&&hT r.t z.ls).map Uv/\H3 wa=some (.lst ys)/\Same H2 H3) ⟨rfl,Ac,Ao nwa _⟩
  (fun i ys H3 _ ⟨e,h1,s3⟩=>⟨h1,by rw[e,zAb]; exact zAE (zAG _ _) (by rw[zAt]; lia),SqL.of (s3 _ _ ha2)⟩) (by rw[zCw]; lia) (fun i x ys H3 hi ⟨e,h1,s3⟩=>?_) (fun ys H3 ⟨e,hw3,s3⟩=>?_)
 ·rw[zAs] at hi
  obtain⟨r,hx,rfl⟩:=zAI.mp hi;have mx:=zAB hx;obtain⟨rat,rok⟩:=all r mx;obtain⟨tv,cl,hl',ht',xs,g1,g2,_⟩:=rat.same (s2.trans s3);have es:=Kx (f:=fun r:Rwc=>r.wt&&hT r.t z.ls) hx;refine (vE rfl (vI rfl rfl (SqT.of g1) rfl (vE rfl ?_)));cases cw:r.wt with
  | false=>
   refine Dj (Dj ⟨rfl,?_,h1,s3⟩);rw[es,e,cw];simp
  | true=>
   refine Kb (vE rfl (vI rfl rfl (SqT.of g1) rfl (vE rfl ⟨tv,r.t,l,z.ls,rfl,g2,by have:=rok.hg; lia,rok.ok,CS ((s2.trans s3) _ _ hl),fun H5 s5=>(vE rfl ?_)⟩)));cases ch:hT r.t z.ls with
   | true=>
    refine Kb (vE rfl ⟨s5 _ _ h1,rfl,?_,Ac,Ew nwa (s3.trans s5)⟩);rw[es,e,cw,ch];simp [Uv]
   | false=>
    refine Dj ⟨rfl,?_,s5 _ _ h1,s3.trans s5⟩;rw[es,e,cw,ch];simp
 rw[lm,zAw] at e;subst e;refine⟨fi,wa,_,_,rfl,rfl,s3 _ _ hf2,hw3,?_,fun ak nak=>?_⟩
 ·rw[zAb,zAb]
  have:=zAG (fun r:Rwc => !r.wt&&hT r.t z.ls) rows;have:=zAG (fun r:Rwc=>r.wt&&hT r.t z.ls) rows;rw[zCw]
  lia
 ·have S3:=s2.trans s3
  refine q ak _ (S3.trans (Ao nak _)) (S3.free nak) ?_;rw[Ac];unfold Sk;rw[zAp]
end
def LastAt (H:Hp) (v:V):Option (Str×Int)->Prop
 | none=>v = .non
 | some (nm,k)=>∃ t,v = .ref t/\H t=some (.tup [.str nm,.int k])
theorem LastAt.same {H H':Hp} {v:V} (s:Same H H'):∀ {lk:Option (Str×Int)},LastAt H v lk->LastAt H' v lk
 | none,h=>h
 | some (_,_),⟨t,e,h⟩=>⟨t,e,s _ _ h⟩
def J2:Sp:=fun vs H Q _=>∃ a ys S,∃ c:Int,vs=[.ref a,.int c]/\H a=some (.lst ys)/\Sts H ys S/\CRT.FormS 0 none S c/\∀ H',Same H H'->Q (.bl true) H'
theorem HQ {nm nm':Str} {k k':Int} (n:¬ (nm=nm'/\k=k')):eqDs [.at (.str nm),.at (.int k)] [.at (.str nm'),.at (.int k')]=false:=by
 unfold eqDs eqDs eqDs BJ;by_cases c1:nm=nm'
 ·by_cases c2:k=k'
  ·exact absurd ⟨c1,c2⟩ n
  ·simp [Wl,c2]
 ·simp [Wl,c1]
theorem U0 {K:zAa} {H:Hp} {t:Addr} {nm:Str} {k:Int} (h:H t=some (.tup [.str nm,.int k])):Wg K H (.seq true [.at (.str nm),.at (.int k)]) (.ref t):=by
 unfold Wg;refine⟨t,_,rfl,fun _=>SqT.of h,(fun e=>by cases e),?_⟩;unfold Reps;refine⟨_,_,rfl,?_,?_⟩
 ·unfold Wg; exact⟨rfl,rfl⟩
 unfold Reps;refine⟨_,_,rfl,?_,?_⟩
 ·unfold Wg; exact⟨rfl,rfl⟩
 unfold Reps;rfl
section
seal L2.PS L2.PSs L2.PE L2.PA
variable {P:Program} {w:World} {K:zAa} {mg:Str->Option Value} {base:Heap}
theorem Zl:Bd ["_law_strips", "_law_cents", "_law_at", "_law_last", "_law_strip", "_law_lo", "_law_hi", "_law_name", "_law_k"] ["_law_strips", "_law_cents"] (Ar Jp):=⟨rfl,rfl,rfl,by decide +kernel,rfl,by decide +kernel,by decide +kernel⟩
theorem Yf {f:Addr} {fd:zCy} (F:Fun K "_law_form" "_law_form" Jp f fd) (T:Txt K mg) (C_law_whole:Cp P w K mg base 1 "_law_whole" ["_law_found"] (He K)):FnOk P w K mg base Da 2 f fd ["_law_strips", "_law_cents"] J2:=by
 have sc:=Zl;refine F.ok sc (fun vs H Q E h=>?_) (fun cdv A outer s H vs Q E hr h=>?_)
 ·obtain⟨_,_,_,_,rfl,_⟩:=h
  rfl
 obtain⟨a,ys,S,c,rfl,ha,sts,fo,q⟩:=h;have hu64:=HE hr;refine⟨_,(Ae (Bt (Df (Cr (Bo Cw rfl T.n_isinstance (show zCx _=some (.builtin "isinstance") from rfl) (Aa (pv 0) (Aa (Lq "list" rfl T.n_list rfl) Ai)))))
    (An (Bc Ee))
    Bk)
   (Ae (Bh (i:=2) sc.nd rfl (Or.inl rfl) Al)
   (Ae (Bh (i:=3) sc.nd rfl (Or.inl rfl) Gv)
   (Ae (Cj PassesOwn.never rfl (Bs (pv 0)) (Ay (i:=4) sc.nd rfl (Or.inl rfl))
    (Ae (Bt (PW.pt (Hf (Df (Cr (Bo Cw rfl T.n_isinstance (show zCx _=some (.builtin "isinstance") from rfl) (Aa (pv 4) (Aa (Lq "tuple" rfl T.n_tuple rfl) Ai))))) (Gg (Bi EN (Bo Ci rfl T.n_len (show zCx _=some (.builtin "len") from rfl) (Aa (pv 4) Ai)) Al (Bl _)))))
    (An (Bc Ee))
    Bk)
   (Ae (O6 (pv 4) (Ez (n:=4) rfl (Bm (Ay (i:=5) sc.nd rfl (Or.inl rfl)) (Bm (Ay (i:=6) sc.nd rfl (Or.inl rfl)) (Bm (Ay (i:=7) sc.nd rfl (Or.inl rfl)) (Bm (Ay (i:=8) sc.nd rfl (Or.inl rfl)) Di))))))
   (Ae (Bt (PW.pt (Hf (Df (Cr (Ax C_law_whole (hr.mono (by decide)) rfl (Aa (pv 5) Ai)))) (Hf (Df (Cr (Ax C_law_whole (hr.mono (by decide)) rfl (Aa (pv 6) Ai)))) (Hf (Df (Cr (Bo Cw rfl T.n_isinstance (show zCx _=some (.builtin "isinstance") from rfl) (Aa (pv 7) (Aa (Lq "str" rfl T.n_str rfl) Ai))))) (Gg (Df (Cr (Ax C_law_whole (hr.mono (by decide)) rfl (Aa (pv 8) Ai)))))))))
    (An (Bc Ee))
    Bk)
   (Ae (Bt (PW.pt (Hf (Bi EN (pv 5) (pv 2) (Bl _)) (Hf (Bi Lr (pv 6) (pv 5) (Bl _)) (Gg (Bi (HK (K:=K) hu64) (Cc (Aa (pv 7) (Aa (pv 8) Ai))) (pv 3) (Bl _))))))
    (An (Bc Ee))
    Bk)
   (Ae (Bh (i:=2) sc.nd rfl (Or.inl rfl) (pv 6))
   (An (Bh (i:=3) sc.nd rfl (Or.inl rfl) (Cc (Aa (pv 7) (Aa (pv 8) Ai)))))))))))
   (An (Bc (Dq Cf (pv 2) (pv 1) (Bl _)))))))),?_⟩
 have ly:=sts.len;have two:2<=sizeLine:=by rw[zCw]; decide
 refine (vE rfl ⟨_,_,_,_,_,rfl,Lo,.lst ha,FL,_,rfl,Dj ?_⟩);refine (vE rfl ⟨a,rfl,⟨_,SqL.of ha⟩,?_⟩);refine Cy (K:=K) (a:=a) (xs:=ys) (fun i σ H2=>∃ at' lk lv o4 o5 o6 o7 o8,σ=[some (.ref a),some (.int c),some (.int at'),some lv,o4,o5,o6,o7,o8]/\CRT.FormS at' lk (S.drop i) c/\LastAt H2 lv lk/\Same H H2)
  ⟨0,none,.non,none,none,none,none,none,rfl,fo,rfl,Same.refl _⟩ (fun i σ H2 _ ⟨_,_,_,_,_,_,_,_,_,_,_,s2⟩=>SqL.of (s2 _ _ ha)) ?_ ?_
 ·rintro i x σ H2 hi ⟨at',lk,lv,o4,o5,o6,o7,o8,rfl,fo2,la,s2⟩
  obtain⟨t,p,hp,rfl,ht⟩:=sts.get hi;rw[Xg hp] at fo2;obtain⟨f1,f2,f3,f4⟩:=fo2;have ht2:=s2 _ _ ht;refine Dz [some (.ref a),some (.int c),some (.int at'),some lv,some (.ref t),o5,o6,o7,o8] rfl ?_;refine (vE rfl ⟨_,_,_,_,_,rfl,Lo,.tup ht2,KU,_,rfl,Dj (vE rfl ⟨t,_,rfl,.inr (SqT.of ht2),rfl,vE rfl (nF rfl ?_)⟩)⟩);refine (vE rfl ⟨t,_,rfl,SqT.of ht2,rfl,vC rfl (vC rfl (vC rfl (vC rfl (⟨rfl,?_⟩))))⟩);refine LH [some (.ref a),some (.int c),some (.int at'),some lv,some (.ref t),some (.int p.1),some (.int p.2.1),some (.str p.2.2.1),some (.int p.2.2.2)] rfl ?_;refine (vE rfl ⟨_,_,rfl,.int _,_,rfl,Dj (vE rfl ⟨_,_,rfl,.int _,_,rfl,Dj (vE rfl ⟨_,_,_,_,_,rfl,Lo,.str _,DC,_,rfl,Dj (vE rfl ⟨_,_,rfl,.int _,_,rfl,Dj ?_⟩)⟩)⟩)⟩);refine (vE rfl (vE rfl ⟨rfl,vE rfl (nF (congrArg V.int f1) (vE rfl (vE rfl (vF rfl rfl (vE rfl (dF (by lia) (vE rfl (vE rfl ⟨two,fun tt ntt=>(vE rfl ?_)⟩))))))))⟩));have s3:=Ao ntt (.tup [V.str p.2.2.1,.int p.2.2.2]);have h3:upd H2 tt (.tup [V.str p.2.2.1,.int p.2.2.2]) tt=some (.tup [V.str p.2.2.1,.int p.2.2.2]):=Ac;generalize upd H2 tt (.tup [V.str p.2.2.1,.int p.2.2.2])=H3 at s3 h3;have la3:=la.same s3;have go:∀ b,b=false->∀ {A B:Prop},B->(if b=true then A else B):=fun b e A B y=>by rw[e]; exact y
  match lk,la3,f3 with
  | none,e,_=>
   refine .inl ⟨e,⟨tt,_,rfl,SqT.of h3⟩,_,rfl,Dj ?_⟩;refine (vE rfl ?_);refine (vE rfl (vE rfl ⟨two,fun t2 nt2=>?_⟩));exact⟨p.2.1,some p.2.2,.ref t2,_,_,_,_,_,rfl,f4,⟨t2,rfl,Ac⟩,s2.trans (s3.trans (Ao nt2 _))⟩
  | some (nm',k'),⟨tl,e,hl⟩,n=>
   subst e;refine .inr ⟨true,_,_,U0 h3,U0 hl,(by simp [deps,MG]),_,rfl,bF (HQ fun y=>n ?_) ?_⟩
   ·rw[<- y.1,<- y.2]
   refine (vE rfl ?_);refine (vE rfl (vE rfl ⟨two,fun t2 nt2=>?_⟩));exact⟨p.2.1,some p.2.2,.ref t2,_,_,_,_,_,rfl,f4,⟨t2,rfl,Ac⟩,s2.trans (s3.trans (Ao nt2 _))⟩
 ·rintro σ H2 ⟨at',lk,lv,o4,o5,o6,o7,o8,rfl,fo2,la,s2⟩
  rw[ly,zBB] at fo2;have e:at'=c:=fo2;have q':=q H2 s2;rw[<- decide_eq_true (congrArg V.int e)] at q';exact (vE rfl (vE rfl ⟨rfl,q'⟩))
def cu (r:Rwc):Cvx:=⟨r.p,r.nm,r.t,r.rs.map Dw,r.wt⟩
theorem HU (c:EQ):(Dw c).way=c.2.1:=by
 unfold Dw
 split
 ·rfl
 ·split <;> rfl
theorem FZ {c:EQ} (h:LK c):Nj (Dw c)=decide (V.str c.1=V.str "limit"):=by
 unfold Dw;rcases h.1 with e | e | e
 ·rw[if_pos e,decide_eq_false (fun y=>absurd (show Str.ofString "own" = Str.ofString "limit" from e.symm.trans (V.str.inj y)) (by decide +kernel))]
  rfl
 ·rw[if_neg (fun y=>absurd (show Str.ofString "layer" = Str.ofString "own" from e.symm.trans y) (by decide +kernel)),if_pos e,decide_eq_false (fun y=>absurd (show Str.ofString "layer" = Str.ofString "limit" from e.symm.trans (V.str.inj y)) (by decide +kernel))]
  rfl
 ·rw[if_neg (fun y=>absurd (show Str.ofString "limit" = Str.ofString "own" from e.symm.trans y) (by decide +kernel)),if_neg (fun y=>absurd (show Str.ofString "limit" = Str.ofString "layer" from e.symm.trans y) (by decide +kernel)),decide_eq_true (congrArg V.str e)]
  rfl
theorem KP {c:EQ} (h:LK c) (x y:Int):Of [V.int x,.int y] (if decide (V.str c.1=V.str "limit")=true then 1 else 0)=some (.int (if Nj (Dw c)=true then y else x)):=by
 rw[FZ h];cases decide (V.str c.1=V.str "limit") <;> rfl
def Pp:Sp:=fun vs H Q _=>∃ a d l st,∃ rows:List Rwc,∃ kvs z ys S,vs=[.ref a,.ref d,.ref l,.ref st]/\H a=some (.lst (rows.map Uv))/\(∀ x∈rows,RwcAt H x/\Qf x)/\rows.length<=8/\H d=some (.dT kvs)/\IntV kvs/\kvs.length<=700/\H l=some (.tup (LF.vs z))/\H st=some (.lst ys)/\Sts H ys S/\S.length<=900/\(∀ s∈S,s.1<s.2.1/\s.2.1<=z.ct/\-1<=s.2.2.2) /\
 ∀ H',(∀ b o,H b=some o->b≠d->H' b=some o)->H' d=some (.dT (Eh z S ((Sk z rows).map cu) kvs))->Q .non H'
theorem E1 {z:LF} {rows:List Rwc}:∀ x∈Sk z rows,x∈rows:=fun x hx=>by
 unfold Sk at hx;rcases zAz.mp hx with g | g
 ·exact (zAT.mp g).1
 ·exact (zAT.mp g).1
theorem DU {z:LF} {rows:List Rwc}:(Sk z rows).length<=2*rows.length:=by
 unfold Sk;rw[zAi];have:=zAG (fun r:Rwc => !r.wt&&hT r.t z.ls) rows;have:=zAG (fun r:Rwc=>r.wt&&hT r.t z.ls) rows
 lia
theorem Ql:Bd ["_law_covers_here", "_law_had_of", "_law_loss_here", "_law_strips", "_law_name", "_law_cond_here", "_law_clauses", "_law_houses", "_law_waits", "_law_paid_here", "_law_k", "_law_place"] ["_law_covers_here", "_law_had_of", "_law_loss_here", "_law_strips"] (Ar Gw):=⟨rfl,rfl,rfl,by decide +kernel,rfl,by decide +kernel,by decide +kernel⟩
theorem Qn {f:Addr} {fd:zCy} (F:Fun K "_law_counted" "_law_counted" Gw f fd) (T:Txt K mg) (C_law_asked:Cp P w K mg base 5 "_law_asked" ["_law_covers_here", "_law_loss_here"] N3) (C_law_paid:Cp P w K mg base 1 "_law_paid" ["_law_strips", "_law_name", "_law_i"] Xt) (C_law_key:Cp P w K mg base 1 "_law_key" ["_law_by", "_law_loss_here"] Q5) :
  FnOk P w K mg base Da 6 f fd ["_law_covers_here", "_law_had_of", "_law_loss_here", "_law_strips"] Pp:=by
 have sc:=Ql;refine F.ok sc (fun vs H Q E h=>?_) (fun cdv A outer s H vs Q E hr h=>?_)
 ·obtain⟨_,_,_,_,_,_,_,_,_,rfl,_⟩:=h
  rfl
 obtain⟨a,d,l,st,rows,kvs,z,ys,S,rfl,ha,all,l8,hd,iv,l7,hl,hst,sts,l9,bd,q⟩:=h;have hu2:=F2 hr;refine⟨_,(An (Cj PassesOwn.never rfl (Bs (Ax C_law_asked (hr.mono (by decide)) rfl (Aa (pv 0) (Aa (pv 2) Ai)))) (Ez (n:=5) rfl (Bm (Ay (i:=4) sc.nd rfl (Or.inl rfl)) (Bm (Ay (i:=5) sc.nd rfl (Or.inl rfl)) (Bm (Ay (i:=6) sc.nd rfl (Or.inl rfl)) (Bm (Ay (i:=7) sc.nd rfl (Or.inl rfl)) (Bm (Ay (i:=8) sc.nd rfl (Or.inl rfl)) Di))))))
    (Ae (Bh (i:=9) sc.nd rfl (Or.inl rfl) (Ax C_law_paid (hr.mono (by decide)) rfl (Aa (pv 3) (Aa (pv 4) (Aa (Bf Bn (pv 2) Al (fun _ _=>rfl)) Ai)))))
   (An (Cj PassesOwn.never rfl (Do rfl T.n_range (Aa (Bo Ci rfl T.n_len (show zCx _=some (.builtin "len") from rfl) (Aa (pv 6) Ai)) Ai)) (Ay (i:=10) sc.nd rfl (Or.inl rfl))
    (Ae (Bh (i:=11) sc.nd rfl (Or.inl rfl) (Cc (Aa (pv 4) (Aa (pv 10) (Aa (Ax C_law_key (hr.mono (by decide)) rfl (Aa (Bf Bn (Bf Bp (pv 6) (pv 10) (fun _ _=>rfl)) Al (fun _ _=>rfl)) (Aa (pv 2) Ai))) Ai)))))
   (An (Zv hu2 (pv 1) (pv 11) (Be Cq (Si hu2 (pv 1) (pv 11) Al ⟨rfl,rfl,rfl,rfl⟩) (Bf Bp (Ce (Aa (Bf Bn (pv 2) Al (fun _ _=>rfl)) (Aa (pv 9) Ai))) (Ec Xa rfl T.n_int (show zCx _=some (.type "int") from rfl) (Aa (Dq Cf (Bf Bn (Bf Bp (pv 6) (pv 10) (fun _ _=>rfl)) Al (fun _ _=>rfl)) Br (Bl _)) Ai)) (fun _ _=>rfl))) rfl)))))))),?_⟩
 have two:2<=sizeLine:=by rw[zCw]; decide
 refine (vE rfl (vE rfl ⟨a,l,rows,z,rfl,ha,all,by lia,hl,fun ak H1 s1 nak hak=>?_⟩));have all1:∀ x∈Sk z rows,RwcAt H1 x/\Qf x:=fun x hx=>⟨(all x (E1 x hx)).1.same s1,(all x (E1 x hx)).2⟩;have la:=DU (z:=z) (rows:=rows);have hd1:=s1 _ _ hd;have hl1:=s1 _ _ hl;have hst1:=s1 _ _ hst;have sts1:=sts.mono (Bq s1);have nd1:∀ {b:Addr} {o:HO},H1 b=some o->(∀ m,o ≠ .dT m)->b≠d:=fun y n=>Eu y hd1 (n _);generalize Sk z rows=as at hak all1 la q;have c8:∀ x∈as.map cu,x.cs.length<=8:=fun x hx=>by
  obtain⟨r,hr',rfl⟩:=zAD.mp hx;have:=(all1 r hr').2.l3;show (r.rs.map Dw).length<=8;rw[zAb]
  lia
 refine⟨ak,rfl,⟨_,SqL.of hak⟩,?_⟩;refine Cy (K:=K) (a:=ak) (xs:=as.map Uv) (fun i σ H2=>(∃ o4 o5 o6 o7 o8 o9 o10 o11,σ=[some (.ref a),some (.ref d),some (.ref l),some (.ref st),o4,o5,o6,o7,o8,o9,o10,o11])/\H2 d=some (.dT (Eh z S ((as.map cu).take i) kvs))/\∀ b o,H1 b=some o->b≠d->H2 b=some o)
  ⟨⟨none,none,none,none,none,none,none,none,rfl⟩,hd1,fun _ _ y _=>y⟩ (fun i σ H2 _ hh=>SqL.of (hh.2.2 _ _ hak (nd1 hak (fun _ y=>by cases y)))) ?_ ?_
 ·rintro i x σ H2 hi ⟨⟨o4,o5,o6,o7,o8,o9,o10,o11,rfl⟩,hd2,kp2⟩
  rw[zAs] at hi;obtain⟨r,hx,rfl⟩:=zAI.mp hi;have mx:=zAB hx;obtain⟨⟨tv,cl,hl',ht',xs,g1,_,g3,g4,_,_⟩,rok⟩:=all1 r mx;have k2:∀ {b:Addr} {o:HO},H1 b=some o->(∀ m,o ≠ .dT m)->H2 b=some o:=fun y n=>kp2 _ _ y (nd1 y n);have g12:=k2 g1 (fun _ y=>by cases y);have g32:=k2 g3 (fun _ y=>by cases y);have hl2:=k2 hl1 (fun _ y=>by cases y);have hst2:=k2 hst1 (fun _ y=>by cases y);have sts2:=sts1.mono fun t ws y=>k2 y (fun _ y=>by cases y);have g42:=g4.mono fun t ws y=>k2 y (fun _ y=>by cases y);refine⟨r.p,_,rfl,SqT.of g12,rfl,_,_,rfl,_,_,rfl,_,_,rfl,_,_,rfl,_,_,rfl,rfl,?_⟩;refine LH [some (.ref a),some (.ref d),some (.ref l),some (.ref st),some (.str r.nm),some tv,some (.ref cl),some (.ref hl'),some (.bl r.wt),o9,o10,o11] rfl ?_;refine (vE rfl (vE rfl (vE rfl (vI rfl rfl (SqT.of hl2) rfl ⟨r.nm,st,ys,S,z.ct,rfl,hst2,sts2,l9,bd,fun H3 s3=>?_⟩))));refine Dz [some (.ref a),some (.ref d),some (.ref l),some (.ref st),some (.str r.nm),some tv,some (.ref cl),some (.ref hl'),some (.bl r.wt),some (.int (Cz r.nm S).sum),o10,o11] rfl ?_;have hd3:=s3 _ _ hd2;have g33:=s3 _ _ g32;have hl3:=s3 _ _ hl2;have g43:=g42.mono (Bq s3);have lx:=g43.len;have l3:=rok.l3;have nd3:∀ {b:Addr} {o:HO},H3 b=some o->(∀ m,o ≠ .dT m)->b≠d:=fun y n=>Eu y hd3 (n _);have lK:=Ky (z:=z) (S:=S) (xs:=(as.map cu).take i) (k:=kvs) fun x hx=>c8 x (List.mem_of_mem_take hx);have lK2:((as.map cu).take i).length<=16:=by rw[zAt,zAb]; lia
  have iK:IntV (Eh z S ((as.map cu).take i) kvs):=Lb iv;obtain⟨K0,eK0⟩:∃ K0,K0=Eh z S ((as.map cu).take i) kvs:=⟨_,rfl⟩;rw[<- eK0] at hd3 lK iK;refine (vE rfl ⟨cl,_,rfl,.inl (SqL.of g33),vE rfl ⟨by lia,by lia,?_⟩⟩);rw[show ((xs.length:Int)).toNat=r.rs.length by lia];refine Ep (lo:=0) (n:=r.rs.length) (fun j σ H4=>(∃ o10 o11,σ=[some (.ref a),some (.ref d),some (.ref l),some (.ref st),some (.str r.nm),some tv,some (.ref cl),some (.ref hl'),some (.bl r.wt),some (.int (Cz r.nm S).sum),o10,o11])/\H4 d=some (.dT (Ed z (cu r) (Cz r.nm S).sum K0 j))/\∀ b o,H3 b=some o->b≠d->H4 b=some o)
   ⟨⟨o10,o11,rfl⟩,hd3,fun _ _ y _=>y⟩ ?_ ?_
  ·rintro j σ H4 hj ⟨⟨o10,o11,rfl⟩,hd4,kp4⟩
   have ec0:r.rs[j]?=some r.rs[j]:=zAe hj;generalize r.rs[j]=c at ec0;have mc:=zAB ec0;have okc:=rok.oc c mc;obtain⟨tc,htc,hc3⟩:=g43.at ec0;have k4:∀ {b:Addr} {o:HO},H3 b=some o->(∀ m,o ≠ .dT m)->H4 b=some o:=fun y n=>kp4 _ _ y (nd3 y n);have g34:=k4 g33 (fun _ y=>by cases y);have hl4:=k4 hl3 (fun _ y=>by cases y);have hc4:=k4 hc3 (fun _ y=>by cases y);have aj:Of xs (0+(j:Int))=some (.ref tc):=by rw[show (0+(j:Int))=(j:Int) by lia]; exact Ge htc
   refine Dz [some (.ref a),some (.ref d),some (.ref l),some (.ref st),some (.str r.nm),some tv,some (.ref cl),some (.ref hl'),some (.bl r.wt),some (.int (Cz r.nm S).sum),some (.int (0+(j:Int))),o11] rfl ?_;refine (vE rfl (vE rfl (vE rfl (vE rfl (vI rfl rfl (SqL.of g34) aj (vI rfl rfl (SqT.of hc4) rfl (vE rfl ⟨c.2.1,l,z,rfl,hl4,By (by show 3<=1000; decide),fun t nt=>?_⟩)))))));refine Dz [some (.ref a),some (.ref d),some (.ref l),some (.ref st),some (.str r.nm),some tv,some (.ref cl),some (.ref hl'),some (.bl r.wt),some (.int (Cz r.nm S).sum),some (.int (0+(j:Int))),some (.ref t)] rfl ?_;have s5:=Ao nt (.tup [V.str r.nm,.int (0+(j:Int)),kV (Fr c.2.1 z)]);have h5:upd H4 t (.tup [V.str r.nm,.int (0+(j:Int)),kV (Fr c.2.1 z)]) t=some (.tup ((Iy r.nm (0+(j:Int)) (Fr c.2.1 z)).map kV)):=Ac;generalize upd H4 t (.tup [V.str r.nm,.int (0+(j:Int)),kV (Fr c.2.1 z)])=H5 at s5 h5;have hd5:=s5 _ _ hd4;obtain⟨n,en⟩:=(Rb (z:=z) (x:=cu r) (pd:=(Cz r.nm S).sum) iK j).have r.nm (0+(j:Int)) (Fr c.2.1 z);refine (vE rfl ⟨d,rfl,.inr ⟨_,.inl hd5⟩,vE rfl ⟨_,DGet.t (k:=Iy r.nm (0+(j:Int)) (Fr c.2.1 z)) hd5 h5,?_⟩⟩);have en':(El (Ed z (cu r) (Cz r.nm S).sum K0 j) (Iy r.nm (0+(j:Int)) (Fr c.2.1 z))).getD (.int 0) = .int n:=en;rw[en'];refine (vE rfl (vI rfl rfl (SqT.of (s5 _ _ hl4)) rfl (vE rfl ⟨two,fun l2 nl2=>?_⟩)));have s6:=Ao nl2 (.lst [V.int z.ct,.int (Cz r.nm S).sum]);have h6:upd H5 l2 (.lst [V.int z.ct,.int (Cz r.nm S).sum]) l2=some (.lst [V.int z.ct,.int (Cz r.nm S).sum]):=Ac;generalize upd H5 l2 (.lst [V.int z.ct,.int (Cz r.nm S).sum])=H6 at s6 h6
   have s56:=s5.trans s6;refine (vE rfl (vE rfl (vI rfl rfl (SqL.of (s56 _ _ g34)) aj (vI rfl rfl (SqT.of (s56 _ _ hc4)) rfl ⟨rfl,.inr (vE rfl (vI rfl rfl (SqL.of h6) (KP okc _ _) (vF rfl rfl (vE rfl (vE rfl ⟨d,_,rfl,DPut.t (k:=Iy r.nm (0+(j:Int)) (Fr c.2.1 z)) (s6 _ _ hd5) (s6 _ _ h5) ?_,?_⟩)))))⟩))))
   ·have:=Rh (z:=z) (x:=cu r) (pd:=(Cz r.nm S).sum) (kvs:=K0) j
    rw[zCw]
    lia
   have e0:(0+(j:Int))=(j:Int):=by lia
   have ecs:(cu r).cs[j]?=some (Dw c):=by
    show (r.rs.map Dw)[j]?=_;rw[zAs,ec0];rfl
   have ec:Ed z (cu r) (Cz r.nm S).sum K0 (j+1)=Fh (Ed z (cu r) (Cz r.nm S).sum K0 j) (Iy r.nm (0+(j:Int)) (Fr c.2.1 z)) (.int (n+if Nj (Dw c)=true then (Cz r.nm S).sum else z.ct)):=by
    show Fh _ _ _=_;rw[ecs];show Fh _ (Iy r.nm (j:Int) (Fr (Dw c).way z)) (.int (B9 (Lp (Ed z (cu r) (Cz r.nm S).sum K0 j) r.nm (j:Int) (Fr (Dw c).way z))+_))=_;rw[e0] at en ⊢;rw[HU,en];rfl
   refine⟨⟨_,_,rfl⟩,?_,fun b o y nb=>?_⟩
   ·rw[Ac,ec]
   ·rw[Aw nb]
    exact s56 _ _ (kp4 b o y nb)
  ·rintro σ H4 ⟨⟨o10,o11,rfl⟩,hd4,kp4⟩
   refine⟨⟨_,_,_,_,_,_,_,_,rfl⟩,?_,fun b o y nb=>kp4 _ _ (s3 _ _ (kp2 b o y nb)) nb⟩;have ei:(as.map cu)[i]?=some (cu r):=by rw[zAs,hx]; rfl
   rw[Bu ei,Ly,<- eK0];have:(cu r).cs.length=r.rs.length:=zAb _;rw[this];exact hd4
 ·rintro σ H2 ⟨⟨o4,o5,o6,o7,o8,o9,o10,o11,rfl⟩,hd2,kp2⟩
  rw[zAb,<- zAb (f:=cu),zAw] at hd2;exact q H2 (fun b o y nb=>kp2 _ _ (s1 _ _ y) nb) hd2
end
def R5 (κ:A8) (m:Nat):Sp:=fun vs H Q _=>∃ v t,vs=[v]/\TrAt H v t/\Mv t<m/\Ls Ox t/\∀ u H',Same H H'->CdAt κ (Nw H H') u t->Q u H'
section
seal L2.PS L2.PSs L2.PE L2.PA
variable {P:Program} {w:World} {K:zAa} {mg:Str->Option Value} {base:Heap} {Ab Ag Af Am At Ba Az As Ad Au Ak Ah Bg Aj Bb Ap:Addr}
theorem Nl:Bd ["_law_cond_here"] ["_law_cond_here"] (Ar Ff):=⟨rfl,rfl,rfl,by decide +kernel,rfl,by decide +kernel,by decide +kernel⟩
theorem Mx {f:Addr} {fd:zCy} (F:Fun K "_law_condition" "_law_condition" Ff f fd) (L:Kl K mg Ab Ag Af Am At Ba Az As Ad Au Ak Ah Bg Aj Bb Ap) {m:Nat} (C_law_condition:Cp P w K mg base (m+2) "_law_condition" ["_law_cond_here"] (R5 (A8.mk Ab Ag Af Am At Ba Az As) m))
  (NCondition:OD K mg "Condition" Ab) (KCauseIs:Es P w K mg base 1 "CauseIs" Ag ["self", "name"] (Jl Ag "name")) (KThingIs:Es P w K mg base 1 "ThingIs" Af ["self", "name"] (Jl Af "name")) (KDaysIn:Es P w K mg base 1 "DaysIn" Am ["self", "first", "last"] (DM Am)) (KOver:Es P w K mg base 1 "Over" At ["self", "cents"] (Jl At "cents"))
  (KNot:Es P w K mg base 1 "Not" Ba ["self", "part"] (Jl Ba "part")) (KAll:Es P w K mg base 1 "All" Az ["self", "several"] (Wp Az)) (KSome:Es P w K mg base 1 "Some" As ["self", "several"] (Wp As)) :
  FnOk P w K mg base Da (m+1+2) f fd ["_law_cond_here"] (R5 (A8.mk Ab Ag Af Am At Ba Az As) (m+1)):=by
 have sc:=Nl;refine F.ok sc (fun vs H Q E h=>?_) (fun cdv A outer s H vs Q E hr h=>?_)
 ·obtain⟨_,_,rfl,_⟩:=h
  rfl
 obtain⟨v,t,rfl,tr,hg,ok,q⟩:=h;refine⟨_,(Ae (Bt (Bi Cf (Bf Bn (pv 0) Al (fun _ _=>rfl)) Br (Bl _))
    (An (Bc (Dp KCauseIs (hr.mono (by lia)) rfl (Aa (Bf Bn (pv 0) Al (fun _ _=>rfl)) Ai))))
    Bk)
   (Ae (Bt (Bi Cf (Bf Bn (pv 0) Al (fun _ _=>rfl)) Br (Bl _))
    (An (Bc (Dp KThingIs (hr.mono (by lia)) rfl (Aa (Bf Bn (pv 0) Al (fun _ _=>rfl)) Ai))))
    Bk)
   (Ae (Bt (Bi Cf (Bf Bn (pv 0) Al (fun _ _=>rfl)) Br (Bl _))
    (An (Bc (Dp KDaysIn (hr.mono (by lia)) rfl (Aa (Bf Bn (pv 0) Al (fun _ _=>rfl)) (Aa (Bf Bn (pv 0) Al (fun _ _=>rfl)) Ai)))))
    Bk)
   (Ae (Bt (Bi Cf (Bf Bn (pv 0) Al (fun _ _=>rfl)) Br (Bl _))
    (An (Bc (Dp KOver (hr.mono (by lia)) rfl (Aa (Bf Bn (pv 0) Al (fun _ _=>rfl)) Ai))))
    Bk)
   (Ae (Bt (Bi Cf (Bf Bn (pv 0) Al (fun _ _=>rfl)) Br (Bl _))
    (An (Bc (Dp KNot (hr.mono (by lia)) rfl (Aa (Ax C_law_condition (hr.mono (by lia)) rfl (Aa (Bf Bn (pv 0) Al (fun _ _=>rfl)) Ai)) Ai))))
    Bk)
   (Ae (Bt (Bi Cf (Bf Bn (pv 0) Al (fun _ _=>rfl)) Br (Bl _))
    (An (Bc (Dp KAll (hr.mono (by lia)) rfl (Aa (Cn (NC:=["_law_part"]) (own:=["_law_part"]) (cs:=[]) (ix:=[]) rfl (CompScope.of rfl) rfl trivial (Bs (Bf Bn (pv 0) Al (fun _ _=>rfl))) (fun _ _ _=>(Ay (i:=0) (show (["_law_part"]:List Str).Nodup from by decide +kernel) rfl (Or.inl rfl))) (fun _ _ _=>Cu) (fun _ _ _=>(Ax C_law_condition (hr.mono (by lia)) rfl (Aa (pv 0) Ai)))) Ai))))
    Bk)
   (Ae (Bt (Bi Cf (Bf Bn (pv 0) Al (fun _ _=>rfl)) Br (Bl _))
    (An (Bc (Dp KSome (hr.mono (by lia)) rfl (Aa (Cn (NC:=["_law_part"]) (own:=["_law_part"]) (cs:=[]) (ix:=[]) rfl (CompScope.of rfl) rfl trivial (Bs (Bf Bn (pv 0) Al (fun _ _=>rfl))) (fun _ _ _=>(Ay (i:=0) (show (["_law_part"]:List Str).Nodup from by decide +kernel) rfl (Or.inl rfl))) (fun _ _ _=>Cu) (fun _ _ _=>(Ax C_law_condition (hr.mono (by lia)) rfl (Aa (pv 0) Ai)))) Ai))))
    Bk)
   (An (Bc (GU NCondition rfl)))))))))),?_⟩
 have sne:∀ {y z:Str},y≠z->¬ V.str y=V.str z:=fun h e=>h (V.str.inj e);cases t with
 | «at» c=>
  cases c with
  | alw=>
   unfold TrAt at tr;obtain⟨p,rfl,hp⟩:=tr;refine (vE rfl (vI rfl rfl (SqT.of hp) rfl ⟨rfl,vE rfl (dF (sne (by decide +kernel)) ?_)⟩));refine (vE rfl (vI rfl rfl (SqT.of hp) rfl ⟨rfl,vE rfl (dF (sne (by decide +kernel)) ?_)⟩));refine (vE rfl (vI rfl rfl (SqT.of hp) rfl ⟨rfl,vE rfl (dF (sne (by decide +kernel)) ?_)⟩));refine (vE rfl (vI rfl rfl (SqT.of hp) rfl ⟨rfl,vE rfl (dF (sne (by decide +kernel)) ?_)⟩));refine (vE rfl (vI rfl rfl (SqT.of hp) rfl ⟨rfl,vE rfl (dF (sne (by decide +kernel)) ?_)⟩));refine (vE rfl (vI rfl rfl (SqT.of hp) rfl ⟨rfl,vE rfl (dF (sne (by decide +kernel)) ?_)⟩));refine (vE rfl (vI rfl rfl (SqT.of hp) rfl ⟨rfl,vE rfl (dF (sne (by decide +kernel)) ?_)⟩));refine fun y dx ny nd ne=>q _ _ (Rt ny nd) ?_;unfold CdAt;exact⟨y,dx,rfl,Nw.of ny Ac⟩
  | cau n=>
   unfold TrAt at tr;obtain⟨p,rfl,hp⟩:=tr;refine (vE rfl (vI rfl rfl (SqT.of hp) rfl ⟨rfl,vE rfl (dT rfl (vE rfl (vI rfl rfl (SqT.of hp) rfl (fun y dx ny nd ne=>⟨y,dx,_,rfl,Ac,rfl,q _ _ (Gh ny nd) ?_⟩))))⟩));unfold CdAt;exact⟨y,dx,rfl,Nw.of ny Ac⟩
  | thi n=>
   unfold TrAt at tr;obtain⟨p,rfl,hp⟩:=tr;refine (vE rfl (vI rfl rfl (SqT.of hp) rfl ⟨rfl,vE rfl (dF (sne (by decide +kernel)) ?_)⟩));refine (vE rfl (vI rfl rfl (SqT.of hp) rfl ⟨rfl,vE rfl (dT rfl (vE rfl (vI rfl rfl (SqT.of hp) rfl (fun y dx ny nd ne=>⟨y,dx,_,rfl,Ac,rfl,q _ _ (Gh ny nd) ?_⟩))))⟩));unfold CdAt;exact⟨y,dx,rfl,Nw.of ny Ac⟩
  | day a b=>
   unfold TrAt at tr;obtain⟨p,rfl,hp⟩:=tr;refine (vE rfl (vI rfl rfl (SqT.of hp) rfl ⟨rfl,vE rfl (dF (sne (by decide +kernel)) ?_)⟩));refine (vE rfl (vI rfl rfl (SqT.of hp) rfl ⟨rfl,vE rfl (dF (sne (by decide +kernel)) ?_)⟩));refine (vE rfl (vI rfl rfl (SqT.of hp) rfl ⟨rfl,vE rfl (dT rfl (vE rfl (vI rfl rfl (SqT.of hp) rfl (vE rfl (vI rfl rfl (SqT.of hp) rfl (fun y dx ny nd ne=>⟨y,dx,_,_,rfl,Ac,fun H' kp hy=>⟨rfl,q _ _ (fun z o e=>?_) ?_⟩⟩))))))⟩))
   ·have n1:=Aq e ny
    rw[kp z n1,Aw n1,Aw (Aq e nd)]; exact e
   ·unfold CdAt
    exact⟨y,dx,rfl,Nw.of ny hy⟩
  | ovr c=>
   unfold TrAt at tr;obtain⟨p,rfl,hp⟩:=tr;refine (vE rfl (vI rfl rfl (SqT.of hp) rfl ⟨rfl,vE rfl (dF (sne (by decide +kernel)) ?_)⟩));refine (vE rfl (vI rfl rfl (SqT.of hp) rfl ⟨rfl,vE rfl (dF (sne (by decide +kernel)) ?_)⟩));refine (vE rfl (vI rfl rfl (SqT.of hp) rfl ⟨rfl,vE rfl (dF (sne (by decide +kernel)) ?_)⟩));refine (vE rfl (vI rfl rfl (SqT.of hp) rfl ⟨rfl,vE rfl (dT rfl (vE rfl (vI rfl rfl (SqT.of hp) rfl (fun y dx ny nd ne=>⟨y,dx,_,rfl,Ac,rfl,q _ _ (Gh ny nd) ?_⟩))))⟩));unfold CdAt;exact⟨y,dx,rfl,Nw.of ny Ac⟩
 | no t=>
  unfold TrAt at tr;obtain⟨p,wt,rfl,hp,tr⟩:=tr;unfold Mv at hg;unfold Ls at ok;refine (vE rfl (vI rfl rfl (SqT.of hp) rfl ⟨rfl,vE rfl (dF (sne (by decide +kernel)) ?_)⟩));refine (vE rfl (vI rfl rfl (SqT.of hp) rfl ⟨rfl,vE rfl (dF (sne (by decide +kernel)) ?_)⟩));refine (vE rfl (vI rfl rfl (SqT.of hp) rfl ⟨rfl,vE rfl (dF (sne (by decide +kernel)) ?_)⟩));refine (vE rfl (vI rfl rfl (SqT.of hp) rfl ⟨rfl,vE rfl (dF (sne (by decide +kernel)) ?_)⟩));refine (vE rfl (vI rfl rfl (SqT.of hp) rfl ⟨rfl,vE rfl (dT rfl (vE rfl (vI rfl rfl (SqT.of hp) rfl ⟨wt,t,rfl,tr,by lia,ok,fun u H1 s1 cd y dx ny nd ne=>⟨y,dx,_,rfl,Ac,rfl,q _ _ (s1.trans (Gh ny nd)) ?_⟩⟩)))⟩));unfold CdAt;exact⟨y,dx,u,rfl,Nw.of (s1.free ny) Ac,cd.same (Nw.grow fun b o _ e=>Gh ny nd _ _ e)⟩
 | al ts=>
  unfold TrAt at tr;obtain⟨p,a,vs,rfl,hp,ha,trs⟩:=tr;unfold Mv at hg;have hlen:=trs.len;unfold Ls at ok;obtain⟨_,ts8,oks⟩:=ok;refine (vE rfl (vI rfl rfl (SqT.of hp) rfl ⟨rfl,vE rfl (dF (sne (by decide +kernel)) ?_)⟩));refine (vE rfl (vI rfl rfl (SqT.of hp) rfl ⟨rfl,vE rfl (dF (sne (by decide +kernel)) ?_)⟩));refine (vE rfl (vI rfl rfl (SqT.of hp) rfl ⟨rfl,vE rfl (dF (sne (by decide +kernel)) ?_)⟩));refine (vE rfl (vI rfl rfl (SqT.of hp) rfl ⟨rfl,vE rfl (dF (sne (by decide +kernel)) ?_)⟩));refine (vE rfl (vI rfl rfl (SqT.of hp) rfl ⟨rfl,vE rfl (dF (sne (by decide +kernel)) ?_)⟩));refine (vE rfl (vI rfl rfl (SqT.of hp) rfl ⟨rfl,vE rfl (dT rfl (vE rfl (vI rfl rfl (SqT.of hp) rfl ⟨a,rfl,⟨_,SqL.of ha⟩,fun pc hpc=>?_⟩)))⟩));refine Bz (K:=K) (a:=a) (xs:=vs) (fun i ys H3=>H3 pc=some (.lst ys)/\ys.length=i/\Same H H3/\CdsAt (A8.mk Ab Ag Af Am At Ba Az As) (Off pc (Nw H H3)) ys (ts.take i)) ⟨Ac,rfl,Ao hpc _,by rw[zBJ]; unfold CdsAt; trivial⟩ (fun i ys H3 _ ⟨h1,h2,h3,_⟩=>⟨h1,by lia,SqL.of (h3 _ _ ha)⟩) (by rw[zCw]; lia) ?_ ?_
  ·rintro i v ys H3 hi ⟨h1,h2,h3,h4⟩
   obtain⟨t,et,tr⟩:=trs.get hi;refine (vE rfl ⟨v,t,rfl,tr.same h3,Kz (by lia) i et,Rc oks t (zAB et),fun u H6 s6 cd=>⟨s6 _ _ h1,rfl,Ac,by rw[zAi,h2]; rfl,Ew hpc (h3.trans s6),?_⟩⟩);rw[Bu et];refine CdsAt.snoc (h4.same fun b o e=>?_) (cd.same fun b o e=>?_)
   ·obtain⟨n,e⟩:=Off.at e
    obtain⟨e0,e⟩:=Nw.at e;exact Off.of n (Nw.of e0 (by rw[Aw n]; exact s6 _ _ e))
   ·obtain⟨e0,e⟩:=Nw.at e
    have n:b≠pc:=fun z=>by rw[z,h1] at e0; cases e0
    exact Off.of n (Nw.of (h3.free e0) (by rw[Aw n]; exact e))
  ·rintro ys H3 ⟨h1,h2,h3,h4⟩
   rw[hlen,zAw] at h4;intro y dx ny nd ne;have s3:Same H3 (upd (upd H3 dx (.own y)) y (.ins Az dx [])):=Rt ny nd;refine⟨y,dx,pc,ys,rfl,Ac,s3 _ _ h1,fun l H4 nl kp hy hl=>⟨rfl,?_⟩⟩;have k4:∀ b o,H3 b=some o->H4 b=some o:=fun b o e=>by rw[kp b (Aq e ny) (Aq (s3 _ _ e) nl)]; exact s3 _ _ e
   refine q _ _ (fun b o e=>k4 _ _ (h3 _ _ e)) ?_;unfold CdAt;refine⟨y,dx,l,ys,rfl,Nw.of (h3.free ny) hy,Nw.of (h3.free (s3.free nl)) hl,h4.same fun b o e=>?_⟩;obtain⟨n,e⟩:=Off.at e;obtain⟨e0,e⟩:=Nw.at e;exact Nw.of e0 (k4 _ _ e)
 | so ts=>
  unfold TrAt at tr;obtain⟨p,a,vs,rfl,hp,ha,trs⟩:=tr;unfold Mv at hg;have hlen:=trs.len;unfold Ls at ok;obtain⟨_,ts8,oks⟩:=ok;refine (vE rfl (vI rfl rfl (SqT.of hp) rfl ⟨rfl,vE rfl (dF (sne (by decide +kernel)) ?_)⟩));refine (vE rfl (vI rfl rfl (SqT.of hp) rfl ⟨rfl,vE rfl (dF (sne (by decide +kernel)) ?_)⟩));refine (vE rfl (vI rfl rfl (SqT.of hp) rfl ⟨rfl,vE rfl (dF (sne (by decide +kernel)) ?_)⟩));refine (vE rfl (vI rfl rfl (SqT.of hp) rfl ⟨rfl,vE rfl (dF (sne (by decide +kernel)) ?_)⟩));refine (vE rfl (vI rfl rfl (SqT.of hp) rfl ⟨rfl,vE rfl (dF (sne (by decide +kernel)) ?_)⟩));refine (vE rfl (vI rfl rfl (SqT.of hp) rfl ⟨rfl,vE rfl (dF (sne (by decide +kernel)) ?_)⟩));refine (vE rfl (vI rfl rfl (SqT.of hp) rfl ⟨rfl,vE rfl (dT rfl (vE rfl (vI rfl rfl (SqT.of hp) rfl ⟨a,rfl,⟨_,SqL.of ha⟩,fun pc hpc=>?_⟩)))⟩));refine Bz (K:=K) (a:=a) (xs:=vs) (fun i ys H3=>H3 pc=some (.lst ys)/\ys.length=i/\Same H H3/\CdsAt (A8.mk Ab Ag Af Am At Ba Az As) (Off pc (Nw H H3)) ys (ts.take i)) ⟨Ac,rfl,Ao hpc _,by rw[zBJ]; unfold CdsAt; trivial⟩ (fun i ys H3 _ ⟨h1,h2,h3,_⟩=>⟨h1,by lia,SqL.of (h3 _ _ ha)⟩) (by rw[zCw]; lia) ?_ ?_
  ·rintro i v ys H3 hi ⟨h1,h2,h3,h4⟩
   obtain⟨t,et,tr⟩:=trs.get hi;refine (vE rfl ⟨v,t,rfl,tr.same h3,Kz (by lia) i et,Rc oks t (zAB et),fun u H6 s6 cd=>⟨s6 _ _ h1,rfl,Ac,by rw[zAi,h2]; rfl,Ew hpc (h3.trans s6),?_⟩⟩);rw[Bu et];refine CdsAt.snoc (h4.same fun b o e=>?_) (cd.same fun b o e=>?_)
   ·obtain⟨n,e⟩:=Off.at e
    obtain⟨e0,e⟩:=Nw.at e;exact Off.of n (Nw.of e0 (by rw[Aw n]; exact s6 _ _ e))
   ·obtain⟨e0,e⟩:=Nw.at e
    have n:b≠pc:=fun z=>by rw[z,h1] at e0; cases e0
    exact Off.of n (Nw.of (h3.free e0) (by rw[Aw n]; exact e))
  ·rintro ys H3 ⟨h1,h2,h3,h4⟩
   rw[hlen,zAw] at h4;intro y dx ny nd ne;have s3:Same H3 (upd (upd H3 dx (.own y)) y (.ins As dx [])):=Rt ny nd;refine⟨y,dx,pc,ys,rfl,Ac,s3 _ _ h1,fun l H4 nl kp hy hl=>⟨rfl,?_⟩⟩;have k4:∀ b o,H3 b=some o->H4 b=some o:=fun b o e=>by rw[kp b (Aq e ny) (Aq (s3 _ _ e) nl)]; exact s3 _ _ e
   refine q _ _ (fun b o e=>k4 _ _ (h3 _ _ e)) ?_;unfold CdAt;refine⟨y,dx,l,ys,rfl,Nw.of (h3.free ny) hy,Nw.of (h3.free (s3.free nl)) hl,h4.same fun b o e=>?_⟩;obtain⟨n,e⟩:=Off.at e;obtain⟨e0,e⟩:=Nw.at e;exact Nw.of e0 (k4 _ _ e)
def un (x:Cvx):Str×Gc×List Cl×Bool:=(x.nm,x.t,x.cs,x.wt)
def Oe (xs:List Cvx):List Cvx:=xs.filter (fun x => !x.wt)++xs.filter (fun x=>x.wt)
def Jo (c:EQ):List Et:=[.inr c.1,.inr c.2.1,.inl c.2.2.1,.inl c.2.2.2]
theorem BR {c e:EQ} (h:Jo c=Jo e):c=e:=by
 obtain⟨c1,c2,c3,c4⟩:=c;obtain⟨e1,e2,e3,e4⟩:=e;unfold Jo at h;simp at h;obtain⟨h1,h2,h3,h4⟩:=h;rw[h1,h2,h3,h4]
def MadeAt (CC CO CL CM:Addr) (H:Hp) (m:Ii):Prop:=∀ c v,El m (Jo c)=some v->∃ p,v = .ref p/\ClAt CC CO CL CM H p (Dw c)
theorem MadeAt.ist {CC CO CL CM:Addr} {H H':Hp} {m:Ii} (h:MadeAt CC CO CL CM H m) (s:NN H H'):MadeAt CC CO CL CM H' m:=fun c v e=>by
 obtain⟨p,e1,dx,g⟩:=h c v e;exact⟨p,e1,dx,s _ _ _ _ g⟩
theorem MadeAt.put {CC CO CL CM:Addr} {H:Hp} {m:Ii} {c:EQ} {p:Addr} (h:MadeAt CC CO CL CM H m) (g:ClAt CC CO CL CM H p (Dw c)):MadeAt CC CO CL CM H (Fh m (Jo c) (.ref p)):=fun e v z=>by
 rw[Nr] at z;by_cases k:Jo e=Jo c
 ·rw[if_pos k] at z
  cases z
  rw[BR k];exact⟨p,rfl,g⟩
 ·rw[if_neg k] at z
  exact h e v z
def Yg (κ:A8) (CC CO CL CM C CB:Addr):Sp:=fun vs H Q _=>∃ a,∃ rows:List Rwc,vs=[.ref a]/\H a=some (.lst (rows.map Uv))/\(∀ x∈rows,RwcAt H x/\Qf x)/\FP (rows.map (·.nm)) /\
 ∀ b bs H',Same H H'->AskAt κ CC CO CL CM C CB H' b bs->bs.map un=(Oe (rows.map cu)).map un->Q (.ref b) H'
theorem Gy {α β:Type} (f:α->β) (g:β->Bool) (xs:List α):((xs.map f).filter g)=(xs.filter (fun x=>g (f x))).map f:=by
 rw[List.filter_map];rfl
theorem Xq:Bd ["_law_covers_here", "_law_some", "_law_made", "_law_name", "_law_cond_here", "_law_clauses", "_law_houses", "_law_waits", "_law_one"] ["_law_covers_here"] (Ar Kc):=⟨rfl,rfl,rfl,by decide +kernel,rfl,by decide +kernel,by decide +kernel⟩
theorem Zo {f:Addr} {fd:zCy} (F:Fun K "_law_book" "_law_book" Kc f fd) (T:Txt K mg) (C_law_clause:Cp P w K mg base 6 "_law_clause" ["_law_clause_here"] (BP Ad Au Ak Ah)) (C_law_condition:Cp P w K mg base 5 "_law_condition" ["_law_cond_here"] (R5 (A8.mk Ab Ag Af Am At Ba Az As) 3))
  (KCover:Es P w K mg base 6 "Cover" Aj ["self", "name", "condition", "clauses", "houses", "waits"] (P7 Aj)) (KBook:Es P w K mg base 1 "Book" Bb ["self", "covers"] (M6 Aj Bb)) :
  FnOk P w K mg base Da 8 f fd ["_law_covers_here"] (Yg (A8.mk Ab Ag Af Am At Ba Az As) Ad Au Ak Ah Aj Bb):=by
 have sc:=Xq;refine F.ok sc (fun vs H Q E h=>?_) (fun cdv A outer s H vs Q E hr h=>?_)
 ·obtain⟨_,_,rfl,_⟩:=h
  rfl
 obtain⟨a,rows,rfl,ha,all,N,q⟩:=h;have hu2:=F2 hr;refine⟨_,(Ae (Bh (i:=1) sc.nd rfl (Or.inl rfl) (Ce Ai))
   (Ae (Bh (i:=2) sc.nd rfl (Or.inr rfl) Rl)
   (Ae (Cj PassesOwn.never rfl (Bs (pv 0)) (Ez (n:=5) rfl (Bm (Ay (i:=3) sc.nd rfl (Or.inl rfl)) (Bm (Ay (i:=4) sc.nd rfl (Or.inl rfl)) (Bm (Ay (i:=5) sc.nd rfl (Or.inl rfl)) (Bm (Ay (i:=6) sc.nd rfl (Or.inl rfl)) (Bm (Ay (i:=7) sc.nd rfl (Or.inl rfl)) Di))))))
    (Ae (Cj PassesOwn.never rfl (Bs (pv 5)) (Ay (i:=8) sc.nd rfl (Or.inl rfl))
    (An (Bt (JA (AL hu2 (pv 8) (pv 2)))
    (An (Zv hu2 (pv 2) (pv 8) (Ax C_law_clause (hr.mono (by decide)) rfl (Aa (pv 8) Ai)) rfl))
    Bk)))
   (An (Ct (Hd PySem.F.plainAttrs_list PySem.F.slot_list_append PySem.F.type_list_append Dv (pv 1) (Aa (Dp KCover (hr.mono (by decide)) rfl (Aa (pv 3) (Aa (Ax C_law_condition (hr.mono (by decide)) rfl (Aa (pv 4) Ai)) (Aa (Cn (NC:=["_law_one", "_law_made"]) (own:=["_law_one"]) (cs:=["_law_made"]) (ix:=[2]) rfl (CompScope.of rfl) rfl ⟨⟨rfl,.inl rfl,rfl⟩,trivial⟩ (Bs (pv 5)) (fun _ _ _=>(Ay (i:=0) (show (["_law_one", "_law_made"]:List Str).Nodup from by decide +kernel) rfl (Or.inl rfl))) (fun _ _ _=>Cu) (fun _ _ _=>(GT hu2 (pv 1) (pv 0) (fun _ _=>rfl)))) (Aa (Ec Dt rfl T.n_list (show zCx _=some (.type "list") from rfl) (Aa (pv 6) Ai)) (Aa (pv 7) Ai)))))) Ai))))))
   (An (Bc (Dp KBook (hr.mono (by decide)) rfl (Aa (pv 1) Ai))))))),?_⟩
 have l8:rows.length<=8:=by have:=N.hi; rwa [zAb] at this
 have lm:(rows.map Uv).length=rows.length:=zAb _;refine⟨zAA _,fun sl nsl=>?_⟩;refine Dz [some (.ref a),some (.ref sl),none,none,none,none,none,none,none] rfl ?_;have s1:=Ao nsl (.lst []);have h1:upd H sl (.lst []) sl=some (.lst []):=Ac;generalize upd H sl (.lst [])=H1 at s1 h1;intro md nmd;refine Dz [some (.ref a),some (.ref sl),some (.ref md),none,none,none,none,none,none] rfl ?_;have s2:=Ao nmd (.dT []);have h2:upd H1 md (.dT []) md=some (.dT []):=Ac;generalize upd H1 md (.dT [])=H2 at s2 h2;have nsm:sl≠md:=Aq h1 nmd;have fmd:H md=none:=s1.free nmd;refine (vE rfl ⟨a,rfl,⟨_,SqL.of (s2 _ _ (s1 _ _ ha))⟩,?_⟩);refine Cy (K:=K) (a:=a) (xs:=rows.map Uv) (fun i σ H3=>(∃ o3 o4 o5 o6 o7 o8,σ=[some (.ref a),some (.ref sl),some (.ref md),o3,o4,o5,o6,o7,o8])/\(∃ cvs:List Cvx,H3 sl=some (.lst (cvs.map xV))/\(∀ x∈cvs,CvxAt (A8.mk Ab Ag Af Am At Ba Az As) Ad Au Ak Ah Aj (Off sl H3) x)/\cvs.map un=((rows.take i).map cu).map un)/\(∃ m,H3 md=some (.dT m)/\MadeAt Ad Au Ak Ah H3 m/\m.length<=3*i)/\Same H H3)
  ⟨⟨none,none,none,none,none,none,rfl⟩,⟨[],s2 _ _ h1,(fun x hx=>nomatch hx),by rw[zBJ]; rfl⟩,⟨[],h2,(fun c v y=>by cases y),zAA _⟩,s1.trans s2⟩ (fun i σ H3 _ hh=>SqL.of (hh.2.2.2 _ _ ha)) ?_ ?_
 ·rintro i x σ H3 hi ⟨⟨o3,o4,o5,o6,o7,o8,rfl⟩,⟨cvs,hsl,acv,eun⟩,⟨m,hm,mad,lmd⟩,s3⟩
  rw[zAs] at hi;obtain⟨r,hx,rfl⟩:=zAI.mp hi;have mx:=zAB hx;have il:i<rows.length:=(zAj.mp hx).1;obtain⟨rat,rok⟩:=all r mx;obtain⟨tv,cl,hl',ht',xs,g1,g2,g3,g4,g5,g6⟩:=id rat;have lx:=g4.len;have l3:=rok.l3;refine⟨r.p,_,rfl,SqT.of (s3 _ _ g1),rfl,_,_,rfl,_,_,rfl,_,_,rfl,_,_,rfl,_,_,rfl,rfl,?_⟩;refine LH [some (.ref a),some (.ref sl),some (.ref md),some (.str r.nm),some tv,some (.ref cl),some (.ref hl'),some (.bl r.wt),o8] rfl ?_;refine (vE rfl ⟨cl,rfl,⟨_,SqL.of (s3 _ _ g3)⟩,?_⟩);have ncl:cl≠md:=Aq g3 fmd;have nmk:∀ {b:Addr} {o:HO},H3 b=some o->(∀ m,o ≠ .dT m)->b≠md:=fun y n=>Eu y hm (n _);refine Cy (K:=K) (a:=cl) (xs:=xs) (fun j σ H4=>(∃ o8,σ=[some (.ref a),some (.ref sl),some (.ref md),some (.str r.nm),some tv,some (.ref cl),some (.ref hl'),some (.bl r.wt),o8])/\(∃ m,H4 md=some (.dT m)/\MadeAt Ad Au Ak Ah H4 m/\m.length<=3*i+j/\∀ c∈r.rs.take j,∃ v,El m (Jo c)=some v)/\∀ b o,H3 b=some o->b≠md->H4 b=some o)
   ⟨⟨o8,rfl⟩,⟨m,hm,mad,by lia,(fun c hc=>by rw[zBJ] at hc; exact nomatch hc)⟩,fun _ _ y _=>y⟩ (fun j σ H4 _ hh=>SqL.of (hh.2.2 _ _ (s3 _ _ g3) ncl)) ?_ ?_
  ·rintro j y σ H4 hj ⟨⟨o8,rfl⟩,⟨m,hm4,mad4,lm4,hv4⟩,kp4⟩
   obtain⟨tc,c,ec,rfl,htc⟩:=g4.get hj;have jl:j<r.rs.length:=(zAj.mp ec).1;have htc3:=s3 _ _ htc;have htc4:H4 tc=some (.tup ((Jo c).map kV)):=kp4 _ _ htc3 (nmk htc3 (fun _ y=>by cases y));refine Dz [some (.ref a),some (.ref sl),some (.ref md),some (.str r.nm),some tv,some (.ref cl),some (.ref hl'),some (.bl r.wt),some (.ref tc)] rfl ?_;refine (vE rfl (vE rfl ⟨md,_,rfl,DGet.t (k:=Jo c) hm4 htc4,_,rfl,?_⟩));cases ev:El m (Jo c) with
   | some v=>
    refine Dj ⟨⟨_,rfl⟩,⟨m,hm4,mad4,by lia,fun e he=>?_⟩,kp4⟩;rw[Bu ec] at he;rcases zAz.mp he with g | g
    ·exact hv4 e g
    ·rw[zAo.mp g]
     exact⟨v,ev⟩
   | none=>
    refine Kb (vE rfl ⟨tc,c,rfl,htc4,rok.oc c (zAB ec),fun p H5 s5 np hp=>(vE rfl (vE rfl ⟨md,_,rfl,DPut.t (k:=Jo c) (s5 _ _ hm4) (s5 _ _ htc4) (by rw[zCw]; lia),?_⟩))⟩);have ist5:NN H5 (upd H5 md (.dT (Fh m (Jo c) (.ref p)))):=fun t C dx fs z=>by
     rw[Aw (Eu z (s5 _ _ hm4) (by intro e; cases e))];exact z
    refine⟨⟨_,rfl⟩,⟨_,Ac,((mad4.ist (Ib s5)).put hp).ist ist5,zAE (Hh _ _ _) (by lia),fun e he=>?_⟩,fun b o y nb=>?_⟩
    ·rw[Bu ec] at he
     rw[Nr];by_cases k:Jo e=Jo c
     ·rw[if_pos k]
      exact⟨_,rfl⟩
     ·rw[if_neg k]
      rcases zAz.mp he with g | g
      ·exact hv4 e g
      ·exact absurd (congrArg Jo (zAo.mp g)) k
    ·rw[Aw nb]
     exact s5 _ _ (kp4 b o y nb)
  ·rintro σ H4 ⟨⟨o8,rfl⟩,⟨m,hm4,mad4,lm4,hv4⟩,kp4⟩
   rw[lx,zAw] at hv4;rw[lx] at lm4;have s4:Same H H4:=fun b o y=>kp4 _ _ (s3 _ _ y) (Aq y fmd);have hsl4:=kp4 _ _ hsl nsm;obtain⟨_,_,_,_,_,g14,g24,g34,g44,g54,g64⟩:=rat.same s4;clear g14 g24 g34 g44 g54 g64;refine (vE rfl ⟨.inl ⟨rfl,_,SqL.of hsl4⟩,vE rfl (vE rfl ⟨tv,r.t,rfl,TrAt.same s4 _ g2,rok.hg,rok.ok,fun u H5 s5 cd=>?_⟩)⟩);have s45:=s4.trans s5;refine (vE rfl ⟨cl,rfl,⟨_,SqL.of (s45 _ _ g3)⟩,fun kl nkl=>?_⟩);have hm5:=s5 _ _ hm4;have mad5:=mad4.ist (Ib s5);refine Bz (K:=K) (a:=cl) (xs:=xs) (fun j ys H6=>Cls4 Ad Au Ak Ah H6 ys ((r.rs.take j).map Dw)/\H6 kl=some (.lst ys)/\Same H5 H6) ⟨trivial,Ac,Ao nkl _⟩
    (fun j ys H6 hj ⟨c1,c2,c3⟩=>⟨c2,by rw[c1.len,zAb,zAt]; lia,SqL.of (c3 _ _ (s45 _ _ g3))⟩) (by rw[zCw]; lia) (fun j y ys H6 hj ⟨c1,c2,c3⟩=>?_) (fun ys H6 ⟨c1,hkl,s6⟩=>?_)
   ·obtain⟨tc,c,ec,rfl,htc⟩:=g4.get hj
    obtain⟨v,ev⟩:=hv4 c (zAB ec);obtain⟨p,rfl,hp⟩:=mad5 c v ev;have htc6:H6 tc=some (.tup ((Jo c).map kV)):=c3 _ _ (s45 _ _ htc);have g:=DGet.t (k:=Jo c) (c3 _ _ hm5) htc6;rw[ev] at g;refine (vE rfl (vE rfl ⟨md,_,rfl,g,c2,rfl,?_,Ac,Ew nkl c3⟩));rw[Bu ec,zAp];have hp6:ClAt Ad Au Ak Ah H6 p (Dw c):=by obtain⟨dx,z⟩:=hp; exact⟨dx,c3 _ _ z⟩
    exact (c1.snoc hp6).mono (V0 c2 _)
   rw[lx,zAw] at c1;have s46:=s45.trans s6;have hsl6:=s6 _ _ (s5 _ _ hsl4);have nks:kl≠sl:=(Aq (s5 _ _ hsl4) nkl).symm;refine (vE rfl ⟨hl',_,rfl,.inl (SqL.of (s46 _ _ g5)),fun h2 nh2=>?_⟩);have s7:=Ao nh2 (.lst [V.ref ht']);have hh7:upd H6 h2 (.lst [V.ref ht']) h2=some (.lst [V.ref ht']):=Ac;generalize upd H6 h2 (.lst [V.ref ht'])=H7 at s7 hh7;refine (vE rfl (fun p dp np ndp nep=>?_));have s8:Same H7 (upd (upd H7 dp (.own p)) p (.ins Aj dp [])):=(Ao ndp _).trans (Ao (by rw[Aw (Ne.symm nep)]; exact np) _);refine⟨p,dp,r.nm,u,kl,ys,h2,ht',r.wt,rfl,Ac,N.ok _ (zAD.mpr ⟨r,mx,rfl⟩),s8 _ _ (s7 _ _ hkl),by rw[c1.len,zAb]; lia,s8 _ _ hh7,s8 _ _ (s7 _ _ (s46 _ _ g6)),fun H9 cl9 h9 d0 fs k9 e9 b1 b2 b3 bh b4 b5 hcl9 fcl9 hh9 fh9=>⟨rfl,?_⟩⟩;have s9:Same H7 H9:=Fk np ndp k9;have s69:=s7.trans s9;have hsl9:=s69 _ _ hsl6;have lcv:cvs.length=i:=by
    have:=congrArg List.length eun;rw[zAb,zAb,zAb,zAt] at this
    lia
   refine⟨sl,_,_,rfl,rfl,hsl9,by rw[zAb,zCw]; lia,?_⟩;have eapp:cvs.map xV++[V.ref p]=(cvs++[Cvx.mk p r.nm r.t (r.rs.map Dw) r.wt]).map xV:=by rw[zAp]; rfl
   rw[eapp];have nps:p≠sl:=(Aq (s7 _ _ hsl6) np).symm;have ncs:cl9≠sl:=(Aq (s8 _ _ (s7 _ _ hsl6)) fcl9).symm;have up:∀ {b:Addr} {o:HO},b≠sl->H9 b=some o->Off sl (upd H9 sl (.lst ((cvs++[Cvx.mk p r.nm r.t (r.rs.map Dw) r.wt]).map xV))) b=some o:=fun n y=>Off.of n (by rw[Aw n]; exact y);have s59:=s5.trans (s6.trans s69);have hm9:=s59 _ _ hm4;have nms:md≠sl:=nsm.symm;refine⟨⟨_,_,_,_,_,_,rfl⟩,⟨_,Ac,fun x hx=>?_,?_⟩,⟨m,by rw[Aw nms]; exact hm9,?_,by lia⟩,fun b o y=>?_⟩
   ·rcases zAz.mp hx with g | g
    ·refine (acv x g).kd fun b o y n=>?_
     obtain⟨y1,y2⟩:=Off.at y;exact up y1 (s59 _ _ (kp4 _ _ y2 (nmk y2 n)))
    ·rw[zAo.mp g]
     refine⟨d0,fs,u,cl9,ys,up nps e9,b1,b2,b3,b4,b5,CdAt.same (fun b o y=>?_) _ cd,up ncs hcl9,c1.mono fun t C dx fs z=>?_,by show (r.rs.map Dw).length<=8; rw[zAb]; lia⟩
     ·obtain⟨y1,y2⟩:=Nw.at y
      exact up (fun e=>by rw[e,hsl4] at y1; cases y1) (s69 _ _ (s6 _ _ y2))
     ·have z9:=s69 _ _ z
      exact up (Eu z9 hsl9 (by intro e; cases e)) z9
   ·rw[zAp,eun,Bu hx,zAp,zAp]
    rfl
   ·exact (mad4.ist (Ib s59)).ist (V0 hsl9 _)
   ·rw[Aw (Aq y nsl)]
    exact s59 _ _ (s4 b o y)
 ·rintro σ H3 ⟨⟨o3,o4,o5,o6,o7,o8,rfl⟩,⟨cvs,hsl,acv,eun⟩,_,s3⟩
  rw[zAb,zAw] at eun;have lcv:cvs.length=rows.length:=by
   have:=congrArg List.length eun
   rwa [zAb,zAb,zAb] at this
  have acv3:∀ x∈cvs,CvxAt (A8.mk Ab Ag Af Am At Ba Az As) Ad Au Ak Ah Aj H3 x:=fun x hx=>(acv x hx).same fun b o y=>(Off.at y).2;have enm:cvs.map (·.nm)=rows.map (·.nm):=by
   have:=congrArg (List.map (fun y:Str×Gc×List Cl×Bool=>y.1)) eun;rw[zBk,zBk,zBk] at this;exact this
  refine (vE rfl (fun bk db nbk ndb neb=>?_));have s4:Same H3 (upd (upd H3 db (.own bk)) bk (.ins Bb db [])):=(Ao ndb _).trans (Ao (by rw[Aw (Ne.symm neb)]; exact nbk) _);have ecv:(cvs.map fun x:Cvx=>((x.p,x.nm,x.wt):Cv)).map Uq=cvs.map xV:=by rw[zBk]; rfl
  refine⟨bk,db,sl,cvs.map fun x:Cvx=>((x.p,x.nm,x.wt):Cv),rfl,Ac,by rw[ecv]; exact s4 _ _ hsl,fun c hc=>?_,by rw[zAb]; lia,?_,fun cl ak H5 k5 B ncl nak=>⟨rfl,?_⟩⟩
  ·obtain⟨x,hx,rfl⟩:=zAD.mp hc
   obtain⟨dx,fs,_,_,_,e,b1,_,_,b4,_⟩:=acv3 x hx;exact⟨dx,fs,s4 _ _ e,b1,b4⟩
  ·rw[zBk]
   show (cvs.map (·.nm)).Nodup;rw[enm];exact N.nd
  ·have s5:Same H3 H5:=Fk nbk ndb k5
   obtain⟨⟨d1,gs,hek,k1,k2,k3⟩,hecl,heak⟩:=B;refine q bk (Oe cvs) H5 (s3.trans s5) ⟨d1,gs,ak,hek,k2,?_,fun x hx=>?_⟩ ?_
   ·rw[heak]
    unfold JI Oe;rw[Gy,Gy,<- zAp,zBk];rfl
   ·unfold Oe at hx
    refine (acv3 x ?_).same s5;rcases zAz.mp hx with g | g
    ·exact (zAT.mp g).1
    ·exact (zAT.mp g).1
   ·have go:∀ xs:List Cvx,(Oe xs).map un=(xs.map un).filter (fun y => !y.2.2.2)++(xs.map un).filter (fun y=>y.2.2.2):=fun xs=>by
     unfold Oe;rw[Gy,Gy,zAp];rfl
    rw[go,go,eun]
end
theorem T0 {xs:List V} {lo hi:Option Int} {x:V} (h:x∈Lg xs lo hi):x∈xs:=by
 unfold Lg at h;exact List.mem_of_mem_drop (List.mem_of_mem_take h)
theorem V4 {xs:List V} {lo hi:Option Int}:(Lg xs lo hi).length<=xs.length:=by
 unfold Lg;rw[zAt,zCa]
 lia
theorem LfsAt.mem {H:Hp} {xs:List V} {zs:List LF} (h:LfsAt H xs zs) {x:V} (hx:x∈xs):∃ t z,x = .ref t/\H t=some (.tup (LF.vs z)):=by
 obtain⟨i,hi⟩:=List.getElem?_of_mem hx;obtain⟨t,z,_,e,g⟩:=h.get hi;exact⟨t,z,e,g⟩
def O0:Sp:=fun vs H Q _=>∃ y ls wl xs zs A B C D,vs=[.str y,.ref ls,.ref wl]/\H ls=some (.lst xs)/\LfsAt H xs zs/\zs.length<=63/\WorldAt H wl A B C D/\NK A B C D/\∀ r (ks:List Et) H',Same H H'->H' r=some (.lst (ks.map kV))->Q (.ref r) H'
section
seal L2.PS L2.PSs L2.PE L2.PA
variable {P:Program} {w:World} {K:zAa} {mg:Str->Option Value} {base:Heap}
theorem Zg:Bd ["_law_by", "_law_losses_here", "_law_world_here", "_law_deep"] ["_law_by", "_law_losses_here", "_law_world_here"] (Ar Ko):=⟨rfl,rfl,rfl,by decide +kernel,rfl,by decide +kernel,by decide +kernel⟩
theorem Zc {f:Addr} {fd:zCy} (F:Fun K "_law_keys" "_law_keys" Ko f fd) (T:Txt K mg):FnOk P w K mg base Da 1 f fd ["_law_by", "_law_losses_here", "_law_world_here"] O0:=by
 have sc:=Zg;refine F.ok sc (fun vs H Q E h=>?_) (fun cdv A outer s H vs Q E hr h=>?_)
 ·obtain⟨_,_,_,_,_,_,_,_,_,rfl,_⟩:=h
  rfl
 obtain⟨y,ls,wl,xs,zs,A,B,C,D,rfl,hls,lfs,l63,wa,W,q⟩:=h;refine⟨_,(Ae (Bt (Bi Cf (pv 0) Br (Bl _))
    (Ae (Bh (i:=3) sc.nd rfl (Or.inl rfl) (Be Ds (Be Ds (Bf Bp (Bf Bp (pv 2) Al (fun _ _=>rfl)) Al (fun _ _=>rfl)) Br) (Bf Bp (Bf Bp (pv 2) Al (fun _ _=>rfl)) Al (fun _ _=>rfl))))
   (An (Bc (Be Hw (Bf Bp (pv 2) Al (fun _ _=>rfl)) (Ce (Aa (Be Ds (Be Ds (pv 3) Br) (Bf Bp (Bf Bp (pv 2) Al (fun _ _=>rfl)) Al (fun _ _=>rfl))) Ai))))))
    Bk)
   (Ae (Bt (Bi Cf (pv 0) Br (Bl _))
    (An (Bc (Bf Bp (pv 2) Al (fun _ _=>rfl))))
    Bk)
   (Ae (Bt (Bi Cf (pv 0) Br (Bl _))
    (An (Bc (Be Hw (Cn (NC:=["_law_loss_here"]) (own:=["_law_loss_here"]) (cs:=[]) (ix:=[]) rfl (CompScope.of rfl) rfl trivial (Bs (Ku Nm (pv 1) No (Oc Al))) (fun _ _ _=>(Ay (i:=0) (show (["_law_loss_here"]:List Str).Nodup from by decide +kernel) rfl (Or.inl rfl))) (fun _ _ _=>Cu) (fun _ _ _=>(Be Ca (Bf (Dd (K:=K) rfl) (pv 0) Al (fun _ _=>rfl)) Al))) (Ce (Aa Al (Aa Al (Aa Al (Aa Al Ai))))))))
    Bk)
   (An (Bc (Be Hw (Ce (Aa Al (Aa Al (Aa Al (Aa Al (Aa Al (Aa Al Ai))))))) (Cn (NC:=["_law_loss_here"]) (own:=["_law_loss_here"]) (cs:=[]) (ix:=[]) rfl (CompScope.of rfl) rfl trivial (Bs (Ku Nm (pv 1) No (Oc Al))) (fun _ _ _=>(Ay (i:=0) (show (["_law_loss_here"]:List Str).Nodup from by decide +kernel) rfl (Or.inl rfl))) (fun _ _ _=>Cu) (fun _ _ _=>(Bf (Dd (K:=K) rfl) (pv 0) Al (fun _ _=>rfl)))))))))),?_⟩
 have one:1<=sizeLine:=by rw[zCw]; decide
 obtain⟨la,lb,lc,ld,hw,ha,hb,hc,hd⟩:=wa;have eA:=W.la;have lx:=lfs.len;have strK:∀ ns:List Str,ns.map V.str=(ns.map Sum.inr).map kV:=fun ns=>by rw[zBk]; rfl
 refine (vE rfl ⟨rfl,vE rfl ?_⟩);by_cases c1:y = "event"
 ·refine dT (congrArg V.str c1) ?_
  obtain⟨x0,i0,y0⟩:=Gu (ns:=A) (i:=0) (by lia) (by lia);obtain⟨x1,i1,y1⟩:=Gu (ns:=A) (i:=1) (by lia) (by lia);obtain⟨x2,i2,y2⟩:=Gu (ns:=A) (i:=2) (by lia) (by lia);have L0:=Ou W.a i0;have L1:=Ou W.a i1;have L2':=Ou W.a i2;have ld1:(Str.ofString ".").length=1:=by decide +kernel
  have at0:Of [V.ref la,.ref lb,.ref lc,.ref ld] 0=some (.ref la):=rfl;have tx0:∀ x:Str,∃ l,x=tx l:=fun x=>⟨_,(X3 x).symm⟩;obtain⟨l0,rfl⟩:=tx0 x0;obtain⟨l1',rfl⟩:=tx0 x1;obtain⟨l2,rfl⟩:=tx0 x2;rw[Dr] at L0 L1 L2';refine (vE rfl (vI rfl rfl (SqL.of hw) at0 (vI rfl rfl (SqL.of ha) y0 (vF rfl rfl ⟨by rw[ld1,Dr]; exact By (by lia),_,rfl,vI rfl rfl (SqL.of hw) at0 (vI rfl rfl (SqL.of ha) y1 (vF rfl rfl ⟨?_,?_⟩))⟩))))
  ·rw[Om,Il,Dr,Dr,zAi]
   exact By (by show l0.length+1+l1'.length<=1000; lia)
  refine Dz [some (.str y),some (.ref ls),some (.ref wl),some (.str (tx (l0++[46]++l1')))] (by exact congrArg (fun z:Str=>[some (V.str y),some (V.ref ls),some (V.ref wl),some (V.str z)]) (by rw[Om,Il,Il])) ?_;refine (vE rfl (vI rfl rfl (SqL.of hw) at0 (vE rfl (vF rfl rfl ⟨?_,_,rfl,vI rfl rfl (SqL.of hw) at0 (vI rfl rfl (SqL.of ha) y2 (vF rfl rfl ⟨?_,one,fun e2 k2=>?_⟩))⟩))))
  ·rw[ld1,Dr,zAi,zAi]
   exact By (by show l0.length+1+l1'.length+1<=1000; lia)
  ·rw[Om,Il,Dr,Dr,zAi,zAi,zAi]
   exact By (by show l0.length+1+l1'.length+1+l2.length<=1000; lia)
  have s2:=Ao k2 (.lst [V.str (tx (l0++[46]++l1')++Str.ofString "." ++ tx l2)]);refine⟨la,e2,_,_,rfl,rfl,s2 _ _ ha,Ac,by rw[zAb,eA]; exact By (by show 3+1<=1000; decide),fun ev k3=>?_⟩;refine q ev (A.map Sum.inr++[.inr (tx (l0++[46]++l1')++Str.ofString "." ++ tx l2)]) _ (s2.trans (Ao k3 _)) ?_;rw[Ac,zAp,<- strK];rfl
 refine dF (fun e=>c1 (V.str.inj e)) (vE rfl ⟨rfl,vE rfl ?_⟩);by_cases c2:y = "thing"
 ·refine dT (congrArg V.str c2) (vE rfl (vI rfl rfl (SqL.of hw) rfl (q lb (B.map Sum.inr) H (Same.refl _) ?_)))
  rw[<- strK];exact hb
 refine dF (fun e=>c2 (V.str.inj e)) (vE rfl ⟨rfl,vE rfl ?_⟩);by_cases c3:y = "year"
 ·refine dT (congrArg V.str c3) (vE rfl (vE rfl ⟨ls,_,rfl,SqL.of hls,fun l3 k3=>?_⟩))
  have mem:∀ x∈Lg xs none (some 2),∃ t z,x = .ref t/\H t=some (.tup (LF.vs z)):=fun x hx=>lfs.mem (T0 hx);have lcut:=V4 (xs:=xs) (lo:=none) (hi:=some 2);generalize Lg xs none (some 2)=us at mem lcut;have s3:=Ao k3 (.lst us);have h3:upd H l3 (.lst us) l3=some (.lst us):=Ac;generalize upd H l3 (.lst us)=H3 at s3 h3;refine⟨l3,rfl,⟨_,SqL.of h3⟩,fun r nr=>?_⟩;refine Bz (K:=K) (a:=l3) (xs:=us) (fun i ys H5=>(∃ ks:List Et,ys=ks.map kV/\ks.length=i)/\H5 r=some (.lst ys)/\Same H3 H5) ⟨⟨[],rfl,rfl⟩,Ac,Ao nr _⟩
   (fun i ys H5 _ ⟨⟨ks,x1,x2⟩,x4,x5⟩=>⟨x4,by rw[x1,zAb,x2]; exact zAl _,SqL.of (x5 _ _ h3)⟩) (by rw[zCw]; lia) (fun i x ys H5 hi ⟨⟨ks,x1,x2⟩,x4,x5⟩=>?_) (fun ys H5 ⟨⟨ks,x1,x2⟩,x4,x5⟩=>?_)
  ·obtain⟨t,z,rfl,ht⟩:=mem x (zAB hi)
   refine (vE rfl (vI rfl rfl (SqT.of (x5 _ _ (s3 _ _ ht))) rfl (vF rfl rfl ⟨⟨by decide,by decide⟩,x4,rfl,⟨ks++[.inl (z.d/365)],by rw[zAp,x1]; rfl,by rw[zAi,x2]; rfl⟩,Ac,Ew nr x5⟩)))
  ·refine⟨By (by show 4<=1000; decide),fun l6 k6=>?_⟩
   have s6:=Ao k6 (.lst [V.int 0,.int 1,.int 2,.int 2000]);refine⟨r,l6,_,_,rfl,rfl,s6 _ _ x4,Ac,by rw[x1,zAb,x2]; exact By (by show us.length+4<=1000; lia),fun l7 k7=>?_⟩;refine q l7 (ks++[.inl 0,.inl 1,.inl 2,.inl 2000]) _ (s3.trans (x5.trans (s6.trans (Ao k7 _)))) ?_;rw[Ac,zAp,x1];rfl
 refine dF (fun e=>c3 (V.str.inj e)) ⟨By (by show 6<=1000; decide),fun l2 k2=>?_⟩;have s2:=Ao k2 (.lst [V.int 0,.int 1,.int 2,.int 3,.int 4,.int 9]);have h2:upd H l2 (.lst [V.int 0,.int 1,.int 2,.int 3,.int 4,.int 9]) l2=some (.lst [V.int 0,.int 1,.int 2,.int 3,.int 4,.int 9]):=Ac;generalize upd H l2 (.lst [V.int 0,.int 1,.int 2,.int 3,.int 4,.int 9])=H2 at s2 h2;refine (vE rfl (vE rfl ⟨ls,_,rfl,SqL.of (s2 _ _ hls),fun l3 k3=>?_⟩));have mem:∀ x∈Lg xs none (some 4),∃ t z,x = .ref t/\H2 t=some (.tup (LF.vs z)):=fun x hx=>by
  obtain⟨t,z,e,g⟩:=lfs.mem (T0 hx);exact⟨t,z,e,s2 _ _ g⟩
 have lcut:=V4 (xs:=xs) (lo:=none) (hi:=some 4);generalize Lg xs none (some 4)=us at mem lcut;have s3:=Ao k3 (.lst us);have h3:upd H2 l3 (.lst us) l3=some (.lst us):=Ac;generalize upd H2 l3 (.lst us)=H3 at s3 h3;refine⟨l3,rfl,⟨_,SqL.of h3⟩,fun r nr=>?_⟩;refine Bz (K:=K) (a:=l3) (xs:=us) (fun i ys H5=>(∃ ks:List Et,ys=ks.map kV/\ks.length=i)/\H5 r=some (.lst ys)/\Same H3 H5) ⟨⟨[],rfl,rfl⟩,Ac,Ao nr _⟩
  (fun i ys H5 _ ⟨⟨ks,x1,x2⟩,x4,x5⟩=>⟨x4,by rw[x1,zAb,x2]; exact zAl _,SqL.of (x5 _ _ h3)⟩) (by rw[zCw]; lia) (fun i x ys H5 hi ⟨⟨ks,x1,x2⟩,x4,x5⟩=>?_) (fun ys H5 ⟨⟨ks,x1,x2⟩,x4,x5⟩=>?_)
 ·obtain⟨t,z,rfl,ht⟩:=mem x (zAB hi)
  refine (vE rfl (vI rfl rfl (SqT.of (x5 _ _ (s3 _ _ ht))) rfl ⟨x4,rfl,⟨ks++[.inl z.n],by rw[zAp,x1]; rfl,by rw[zAi,x2]; rfl⟩,Ac,Ew nr x5⟩))
 ·refine⟨l2,r,_,_,rfl,rfl,x5 _ _ (s3 _ _ h2),x4,by rw[x1,zAb,x2]; exact By (by show 6+us.length<=1000; lia),fun l7 k7=>?_⟩
  refine q l7 ([.inl 0,.inl 1,.inl 2,.inl 3,.inl 4,.inl 9]++ks) _ (s2.trans (s3.trans (x5.trans (Ao k7 _)))) ?_;rw[Ac,zAp,x1];rfl
end
def Q2 (CN:Addr):Sp:=fun vs H Q _=>∃ a cp kp d wl ls,∃ rows:List Rwc,∃ kvs xs zs A B C D,vs=[.ref a,.ref cp,.ref d,.ref wl,.ref ls]/\H a=some (.lst (rows.map Uv))/\(∀ x∈rows,RwcAt H x/\Qf x)/\CtAt CN H cp kp kvs/\H d=some (.dT kvs)/\IntV kvs/\H ls=some (.lst xs)/\LfsAt H xs zs/\zs.length<=63/\WorldAt H wl A B C D/\NK A B C D/\∀ H',Same H H'->Q (.bl true) H'
section
seal L2.PS L2.PSs L2.PE L2.PA
variable {P:Program} {w:World} {K:zAa} {mg:Str->Option Value} {base:Heap} {Ab Ag Af Am At Ba Az As Ad Au Ak Ah Bg Aj Bb Ap:Addr}
theorem Zj:Bd ["_law_covers_here", "_law_counts", "_law_had_of", "_law_world_here", "_law_losses_here", "_law_name", "_law_cond_here", "_law_clauses", "_law_houses", "_law_waits", "_law_k", "_law_key_here", "_law_found"] ["_law_covers_here", "_law_counts", "_law_had_of", "_law_world_here", "_law_losses_here"] (Ar Kk):=⟨rfl,rfl,rfl,by decide +kernel,rfl,by decide +kernel,by decide +kernel⟩
theorem Zw {f:Addr} {fd:zCy} (F:Fun K "_law_kept" "_law_kept" Kk f fd) (T:Txt K mg) (C_law_keys:Cp P w K mg base 1 "_law_keys" ["_law_by", "_law_losses_here", "_law_world_here"] O0) (C_law_whole:Cp P w K mg base 1 "_law_whole" ["_law_found"] (He K)) (Mhave:Hi P w K mg base 1 Ap "have" ["self", "name", "k", "key"] (Pk Ap)) :
  FnOk P w K mg base Da 2 f fd ["_law_covers_here", "_law_counts", "_law_had_of", "_law_world_here", "_law_losses_here"] (Q2 Ap):=by
 have sc:=Zj;refine F.ok sc (fun vs H Q E h=>?_) (fun cdv A outer s H vs Q E hr h=>?_)
 ·obtain⟨_,_,_,_,_,_,_,_,_,_,_,_,_,_,rfl,_⟩:=h
  rfl
 obtain⟨a,cp,kp,d,wl,ls,rows,kvs,xs,zs,A,B,C,D,rfl,ha,all,ct,hd,iv,hls,lfs,l63,wa,W,q⟩:=h;have hu2:=F2 hr;refine⟨_,(Ae (Cj PassesOwn.never rfl (Bs (pv 0)) (Ez (n:=5) rfl (Bm (Ay (i:=5) sc.nd rfl (Or.inl rfl)) (Bm (Ay (i:=6) sc.nd rfl (Or.inl rfl)) (Bm (Ay (i:=7) sc.nd rfl (Or.inl rfl)) (Bm (Ay (i:=8) sc.nd rfl (Or.inl rfl)) (Bm (Ay (i:=9) sc.nd rfl (Or.inl rfl)) Di))))))
    (An (Cj PassesOwn.never rfl (Do rfl T.n_range (Aa (Bo Ci rfl T.n_len (show zCx _=some (.builtin "len") from rfl) (Aa (pv 7) Ai)) Ai)) (Ay (i:=10) sc.nd rfl (Or.inl rfl))
    (An (Cj PassesOwn.never rfl (Bs (Ax C_law_keys (hr.mono (by decide)) rfl (Aa (Bf Bn (Bf Bp (pv 7) (pv 10) (fun _ _=>rfl)) Al (fun _ _=>rfl)) (Aa (pv 4) (Aa (pv 3) Ai))))) (Ay (i:=11) sc.nd rfl (Or.inl rfl))
    (Ae (Bh (i:=12) sc.nd rfl (Or.inl rfl) (Du Mhave (hr.mono (by decide)) (pv 1) (Aa (pv 5) (Aa (pv 10) (Aa (pv 11) Ai)))))
   (An (Bt (PW.pt (Hf (Df (Cr (Ax C_law_whole (hr.mono (by decide)) rfl (Aa (pv 12) Ai)))) (Gg (Bi EN (pv 12) (Si hu2 (pv 2) (Cc (Aa (pv 5) (Aa (pv 10) (Aa (pv 11) Ai)))) Al ⟨rfl,rfl,rfl,rfl⟩) (Bl _)))))
    (An (Bc Ee))
    Bk))))))))
   (An (Bc Ee))),?_⟩
 refine (vE rfl ⟨a,rfl,⟨_,SqL.of ha⟩,?_⟩);refine Cy (K:=K) (a:=a) (xs:=rows.map Uv) (fun i σ H2=>(∃ o5 o6 o7 o8 o9 o10 o11 o12,σ=[some (.ref a),some (.ref cp),some (.ref d),some (.ref wl),some (.ref ls),o5,o6,o7,o8,o9,o10,o11,o12])/\Same H H2)
  ⟨⟨none,none,none,none,none,none,none,none,rfl⟩,Same.refl _⟩ (fun i σ H2 _ hh=>SqL.of (hh.2 _ _ ha)) ?_ ?_
 ·rintro i x σ H2 hi ⟨⟨o5,o6,o7,o8,o9,o10,o11,o12,rfl⟩,s2⟩
  rw[zAs] at hi;obtain⟨r,hx,rfl⟩:=zAI.mp hi;obtain⟨rat,rok⟩:=all r (zAB hx);obtain⟨tv,cl,hl',ht',cs,g1,_,g3,g4,_,_⟩:=rat;have lx:=g4.len;have l3:=rok.l3;refine⟨r.p,_,rfl,SqT.of (s2 _ _ g1),rfl,_,_,rfl,_,_,rfl,_,_,rfl,_,_,rfl,_,_,rfl,rfl,?_⟩;refine LH [some (.ref a),some (.ref cp),some (.ref d),some (.ref wl),some (.ref ls),some (.str r.nm),some tv,some (.ref cl),some (.ref hl'),some (.bl r.wt),o10,o11,o12] rfl ?_;refine (vE rfl ⟨cl,_,rfl,.inl (SqL.of (s2 _ _ g3)),vE rfl ⟨by lia,by lia,?_⟩⟩);rw[show ((cs.length:Int)).toNat=r.rs.length by lia];refine Ep (lo:=0) (n:=r.rs.length) (fun j σ H3=>(∃ o10 o11 o12,σ=[some (.ref a),some (.ref cp),some (.ref d),some (.ref wl),some (.ref ls),some (.str r.nm),some tv,some (.ref cl),some (.ref hl'),some (.bl r.wt),o10,o11,o12])/\Same H H3)
   ⟨⟨o10,o11,o12,rfl⟩,s2⟩ ?_ ?_
  ·rintro j σ H3 hj ⟨⟨o10,o11,o12,rfl⟩,s3⟩
   have ec0:r.rs[j]?=some r.rs[j]:=zAe hj;generalize r.rs[j]=c at ec0;obtain⟨tc,htc,hc⟩:=g4.at ec0;have aj:Of cs (0+(j:Int))=some (.ref tc):=by rw[show (0+(j:Int))=(j:Int) by lia]; exact Ge htc
   refine Dz [some (.ref a),some (.ref cp),some (.ref d),some (.ref wl),some (.ref ls),some (.str r.nm),some tv,some (.ref cl),some (.ref hl'),some (.bl r.wt),some (.int (0+(j:Int))),o11,o12] rfl ?_;refine (vE rfl (vE rfl (vI rfl rfl (SqL.of (s3 _ _ g3)) aj (vI rfl rfl (SqT.of (s3 _ _ hc)) rfl (vE rfl (vE rfl ⟨c.2.1,ls,wl,xs,zs,A,B,C,D,rfl,s3 _ _ hls,lfs.mono (Bq s3),l63,wa.same s3,W,fun kr ks H4 s4 hkr=>⟨kr,rfl,⟨_,SqL.of hkr⟩,?_⟩⟩))))));refine Cy (K:=K) (a:=kr) (xs:=ks.map kV) (fun n σ H5=>(∃ o11 o12,σ=[some (.ref a),some (.ref cp),some (.ref d),some (.ref wl),some (.ref ls),some (.str r.nm),some tv,some (.ref cl),some (.ref hl'),some (.bl r.wt),some (.int (0+(j:Int))),o11,o12])/\Same H4 H5)
    ⟨⟨o11,o12,rfl⟩,Same.refl _⟩ (fun n σ H5 _ hh=>SqL.of (hh.2 _ _ hkr)) ?_ ?_
   ·rintro n x σ H5 hn ⟨⟨o11,o12,rfl⟩,s5⟩
    rw[zAs] at hn;obtain⟨y,_,rfl⟩:=zAI.mp hn;have S5:=s3.trans (s4.trans s5);have ct5:=ct.same S5;obtain⟨⟨dx,fs,hp,b1,b2,b3⟩,_⟩:=id ct5;obtain⟨m,em⟩:=iv.have r.nm (0+(j:Int)) y;refine Dz [some (.ref a),some (.ref cp),some (.ref d),some (.ref wl),some (.ref ls),some (.str r.nm),some tv,some (.ref cl),some (.ref hl'),some (.bl r.wt),some (.int (0+(j:Int))),some (kV y),o12] rfl ?_;refine (vE rfl ⟨cp,dx,fs,rfl,hp,b2,_,rfl,vE rfl (vE rfl ⟨cp,kp,kvs,r.nm,_,y,rfl,ct5,fun H6 s6=>?_⟩)⟩);rw[em];refine Dz [some (.ref a),some (.ref cp),some (.ref d),some (.ref wl),some (.ref ls),some (.str r.nm),some tv,some (.ref cl),some (.ref hl'),some (.bl r.wt),some (.int (0+(j:Int))),some (kV y),some (.int m)] rfl ?_;have hd6:=s6 _ _ (S5 _ _ hd);refine (vE rfl ⟨_,_,rfl,.int m,_,rfl,Dj ?_⟩);refine (vE rfl (vE rfl ⟨d,rfl,.inr ⟨kvs,.inl hd6⟩,vE rfl (vE rfl (vE rfl ⟨By (by show 3<=1000; decide),fun t nt=>?_⟩))⟩));have s7:=Ao nt (.tup [V.str r.nm,.int (0+(j:Int)),kV y]);refine⟨_,DGet.t (k:=Iy r.nm (0+(j:Int)) y) (s7 _ _ hd6) Ac,?_⟩;have em':(El kvs (Iy r.nm (0+(j:Int)) y)).getD (.int 0) = .int m:=em;rw[em'];exact⟨rfl,vE rfl (nF rfl ⟨⟨_,_,rfl⟩,s5.trans (s6.trans s7)⟩)⟩
   ·rintro σ H5 ⟨⟨o11,o12,rfl⟩,s5⟩
    exact⟨⟨_,_,_,rfl⟩,s3.trans (s4.trans s5)⟩
  ·rintro σ H3 ⟨⟨o10,o11,o12,rfl⟩,s3⟩
   exact⟨⟨_,_,_,_,_,_,_,_,rfl⟩,s3⟩
 ·rintro σ H2 ⟨⟨o5,o6,o7,o8,o9,o10,o11,o12,rfl⟩,s2⟩
  exact q _ s2
end
theorem D9 {α:Type} (p:α->Bool):∀ xs:List α,(xs.filter (fun x => !p x)++xs.filter p).Perm xs
 | []=>.nil
 | x::xs=>by
  have ih:=D9 p xs;cases e:p x with
  | true=>
   rw[zBo (by rw[e]; decide),zBn e];exact List.perm_middle.trans (ih.cons x)
  | false=>
   rw[zBn (by rw[e]; rfl),zBo (by rw[e]; decide)];exact ih.cons x
theorem Pj (xs:List Cvx):(Oe xs).Perm xs:=D9 (fun x:Cvx=>x.wt) xs
theorem C3 (z:LF) (S:List Rp):∀ {xs ys:List Cvx} {k:Ii},xs.map un=ys.map un->Eh z S xs k=Eh z S ys k
 | [],[],_,_=>rfl
 | [],_::_,_,h=>by simp at h
 | _::_,[],_,h=>by simp at h
 | x::xs,y::ys,k,h=>by
  rw[zAK,zAK] at h;injection h with h1 h2;have e1:x.nm=y.nm:=congrArg (·.1) h1;have e2:x.cs=y.cs:=congrArg (·.2.2.1) h1;have ec:∀ pd i,Ed z x pd k i=Ed z y pd k i:=fun pd i=>by
   induction i with
   | zero=>rfl
   | succ i ih=>
    show Fh _ _ _=Fh _ _ _;rw[ih,e1,e2]
  show Eh z S xs (Ed z x (Cz x.nm S).sum k x.cs.length)=Eh z S ys (Ed z y (Cz y.nm S).sum k y.cs.length);rw[ec,e1,e2];exact C3 z S h2
theorem F4 (z:LF) (xs:List Cvx):(Dy z xs).map un=(xs.map un).filter (fun y=>hT y.2.1 z.ls):=by
 unfold Dy;rw[Gy];rfl
theorem IG {α:Type} (p q:α->Bool) (xs:List α):(xs.filter p).filter q=xs.filter (fun x=>p x&&q x):=by
 rw[List.filter_filter]
 congr 1
 funext x
 exact Bool.and_comm _ _
theorem DR (z:LF) {bs:List Cvx} {rows:List Rwc} (h:bs.map un=(Oe (rows.map cu)).map un):(Dy z bs).map un=((Sk z rows).map cu).map un:=by
 rw[F4,h,<- F4]
 congr 1
 unfold Dy Oe Sk;rw[zBD,IG,IG,Gy,Gy,<- zAp];rfl
theorem FC {bs:List Cvx} {rows:List Rwc} (h:bs.map un=(Oe (rows.map cu)).map un):∀ x∈bs,∃ r∈rows,un x=un (cu r):=fun x hx=>by
 have:un x∈(Oe (rows.map cu)).map un:=by rw[<- h]; exact zAD.mpr ⟨x,hx,rfl⟩
 obtain⟨y,hy,e⟩:=zAD.mp this;obtain⟨r,hr,rfl⟩:=zAD.mp ((Pj _).mem_iff.mp hy);exact⟨r,hr,e.symm⟩
theorem LI {bs:List Cvx} {rows:List Rwc} (h:bs.map un=(Oe (rows.map cu)).map un):bs.length=rows.length:=by
 have:=congrArg List.length h;rw[zAb,zAb,(Pj _).length_eq,zAb] at this;exact this
theorem MA {bs:List Cvx} {rows:List Rwc} (h:bs.map un=(Oe (rows.map cu)).map un) (nd:(rows.map (·.nm)).Nodup):(bs.map (·.nm)).Nodup:=by
 have e:=congrArg (List.map (fun y:Str×Gc×List Cl×Bool=>y.1)) h;rw[zBk,zBk] at e;have e':bs.map (·.nm)=(Oe (rows.map cu)).map (·.nm):=e;rw[e',((Pj (rows.map cu)).map (·.nm)).nodup_iff,zBk];exact nd
theorem U4:∀ {S:List Rp} {a c:Int} {lk:Option (Str×Int)},CRT.FormS a lk S c->a<=c/\∀ s∈S,s.1<s.2.1/\s.2.1<=c
 | [],a,c,lk,h=>⟨Int.le_of_eq h,fun s hs=>nomatch hs⟩
 | s::r,a,c,lk,⟨h1,h2,_,h4⟩=>by
  obtain⟨g1,g2⟩:=U4 h4;refine⟨by lia,fun t ht=>?_⟩;rcases zAn.mp ht with e | e
  ·rw[e]; exact⟨h2,g1⟩
  ·exact g2 t e
theorem ED:∀ {cs:List (CRT.Av Str)} {un:List CR.Rn},∀ s∈CRT.paidS cs un,s.2.2.2 = -1
 | [],un,s,h=>nomatch h
 | c::cs,un,s,h=>by
  unfold CRT.paidS at h;rcases zAz.mp h with g | g
  ·unfold CRT.tag at g
   obtain⟨p,_,rfl⟩:=zAD.mp g;rfl
  ·exact ED s g
set_option tactic.hygienic true in
theorem BQ {kvs:Ii} {z:LF} {as:List Cvx} {S:List Rp} (h:Ic kvs z as S):∀ s∈S,-1<=s.2.2.2:=by
 unfold Ic at h
 split at h
 ·rw[h]
  intro s hs;rw[zAo.mp hs];show (-1:Int)<=0
  decide
 ·rename_i x _
  obtain⟨avs,parts,av,ch,pm,so⟩:=h;intro s hs;have hs':=pm.mem_iff.mp hs;unfold CRT.allS at hs';rcases zAz.mp hs' with g | g
  ·have:=ED s g
   lia
  ·unfold CRT.borneS at g
   obtain⟨l,hl,hsl⟩:=zCe.mp g;obtain⟨p,hp,rfl⟩:=zAD.mp hl;unfold CRT.tag at hsl;obtain⟨q,_,rfl⟩:=zAD.mp hsl;show -1<=G8 (Cm x.cs (numsOf kvs z x)) p.2.2;have pk : -1<=p.2.2:=by
    obtain⟨c,_,_,e⟩:=BS ch hp;unfold CRP.fw at e;rcases M3 (sp:=Bx z.ct x.cs (numsOf kvs z x)) (k:=0) (c:=c) with y | ⟨i,q,_,y,_⟩
    ·lia
    ·lia
   cases ro:Cm x.cs (numsOf kvs z x) with
   | none=>exact pk
   | some nj=>
    obtain⟨n,j⟩:=nj;obtain⟨j0,_⟩:=Yi ro ch;show -1<=if p.2.2 = -1 then j else p.2.2
    split <;> lia
def JG (kvs:Ii):Prop:=El kvs (Iy "x" 7 (.inr "x"))=none
theorem X4 {z:LF} {x:Cvx} {pd:Int} {kvs:Ii} (h:JG kvs):∀ i,i<=7->JG (Ed z x pd kvs i)
 | 0,_=>h
 | i+1,hi=>by
  have ih:=X4 (z:=z) (x:=x) (pd:=pd) h i (by lia);unfold JG at ih ⊢;show El (Fh _ _ _) _=none;rw[Nr,if_neg]
  ·exact ih
  ·intro e
   unfold Iy at e;injection e with _ e;injection e with e _;have:(7:Int)=(i:Int):=Sum.inl.inj e
   lia
theorem V6 {z:LF} {S:List Rp}:∀ {xs:List Cvx} {k:Ii},(∀ x∈xs,x.cs.length<=7)->JG k->JG (Eh z S xs k)
 | [],_,_,h=>h
 | x::xs,k,l,h=>V6 (xs:=xs) (fun y hy=>l y (zAd _ hy)) (X4 h _ (l x zAk))
theorem IR {z:Str} (h:Qa (.str z)=true):N5 z:=⟨z.cps.toList,(X3 z).symm,of_decide_eq_true h⟩
structure TwoAt (CC:Addr) (H0 H:Hp) (p kp d:Addr) (kvs:Ii):Prop where
 ct:CtAt CC H p kp kvs
 hd:H d=some (.dT kvs)
 ne:d≠kp
 np:d≠p
 fk:H0 kp=none
 fd:H0 d=none
 s:Same H0 H
theorem TwoAt.same {CC:Addr} {H0 H H':Hp} {p kp d:Addr} {kvs:Ii} (h:TwoAt CC H0 H p kp d kvs) (s:Same H H'):TwoAt CC H0 H' p kp d kvs:=⟨h.ct.same s,s _ _ h.hd,h.ne,h.np,h.fk,h.fd,h.s.trans s⟩
def X7 (K:zAa):Sp:=fun vs H Q _=>∃ (a:Addr) (ns:List Int),vs=[.ref a]/\SqL K H a (ns.map V.int)/\ns.length<=63/\∀ H',Q (.bl true) H'
theorem AskAt.same {κ:A8} {CC CO CL CM C CB:Addr} {H H':Hp} {b:Addr} {bs:List Cvx} (h:AskAt κ CC CO CL CM C CB H b bs) (s:Same H H'):AskAt κ CC CO CL CM C CB H' b bs:=by
 obtain⟨dx,fs,ak,h1,h2,h3,h4⟩:=h;exact⟨dx,fs,ak,s _ _ h1,h2,s _ _ h3,fun x hx=>(h4 x hx).same s⟩
section
variable {P:Program} {w:World} {K:zAa} {mg:Str->Option Value} {base:Heap} {Ab Ag Af Am At Ba Az As Ad Au Ak Ah Bg Aj Bb Ap:Addr}
theorem JO:Bd ["_law_script", "_law_unit_here", "_law_world_here", "_law_covers_here", "_law_book_here", "_law_losses_here", "_law_counts", "_law_had_of", "_law_j", "_law_strips"] ["_law_script"] (Ar Uj):=⟨rfl,rfl,rfl,by decide +kernel,rfl,by decide +kernel,by decide +kernel⟩
theorem JT {f:Addr} {fd:zCy} (F:Fun K "law" "law" Uj f fd) (T:Txt K mg) (L:Kl K mg Ab Ag Af Am At Ba Az As Ad Au Ak Ah Bg Aj Bb Ap) (C_law_unit:Cp P w K mg base 2 "_law_unit" ["_law_script"] (L3 K)) (C_law_world:Cp P w K mg base 2 "_law_world" ["_law_script", "_law_most"] (Zm K))
  (C_law_covers:Cp P w K mg base 3 "_law_covers" ["_law_script", "_law_names_here", "_law_things", "_law_causes", "_law_unit_here"] (P8 K)) (C_law_book:Cp P w K mg base 8 "_law_book" ["_law_covers_here"] (Yg (A8.mk Ab Ag Af Am At Ba Az As) Ad Au Ak Ah Aj Bb)) (C_law_losses:Cp P w K mg base 2 "_law_losses" ["_law_script", "_law_many", "_law_world_here", "_law_unit_here"] (Tt K))
  (KCounts:Es P w K mg base 1 "Counts" Ap ["self"] (DY Ap)) (Csettle:Cp P w K mg base 8 "settle" ["book", "counts", "loss"] (Sz (A8.mk Ab Ag Af Am At Ba Az As) Ad Au Ak Ah Aj Bb Ap)) (C_law_form:Cp P w K mg base 2 "_law_form" ["_law_strips", "_law_cents"] J2)
  (C_law_counted:Cp P w K mg base 6 "_law_counted" ["_law_covers_here", "_law_had_of", "_law_loss_here", "_law_strips"] Pp) (C_law_kept:Cp P w K mg base 2 "_law_kept" ["_law_covers_here", "_law_counts", "_law_had_of", "_law_world_here", "_law_losses_here"] (Q2 Ap)) (Mhave:Hi P w K mg base 1 Ap "have" ["self", "name", "k", "key"] (Pk Ap)) :
  FnOk P w K mg base Da 9 f fd ["_law_script"] (X7 K):=by
 have sc:=JO;refine F.ok sc (fun vs H Q E h=>?_) (fun cdv A outer s H vs Q E hr h=>?_)
 ·obtain⟨_,_,rfl,_⟩:=h
  rfl
 obtain⟨a,ns,rfl,ha,l63,q⟩:=h;refine⟨_,(Ae (Bh (i:=1) sc.nd rfl (Or.inl rfl) (Ax C_law_unit (hr.mono (by decide)) rfl (Aa (pv 0) Ai)))
   (Ae (Bh (i:=2) sc.nd rfl (Or.inl rfl) (Ax C_law_world (hr.mono (by decide)) rfl (Aa (pv 0) (Aa Al Ai))))
   (Ae (Bh (i:=3) sc.nd rfl (Or.inl rfl) (Ax C_law_covers (hr.mono (by decide)) rfl (Aa (pv 0) (Aa (Bf Bp (pv 2) Al (fun _ _=>rfl)) (Aa (Bf Bp (pv 2) Al (fun _ _=>rfl)) (Aa (Bf Bp (pv 2) Al (fun _ _=>rfl)) (Aa (pv 1) Ai)))))))
   (Ae (Bh (i:=4) sc.nd rfl (Or.inl rfl) (Ax C_law_book (hr.mono (by decide)) rfl (Aa (pv 3) Ai)))
   (Ae (Bh (i:=5) sc.nd rfl (Or.inl rfl) (Ax C_law_losses (hr.mono (by decide)) rfl (Aa (pv 0) (Aa Al (Aa (pv 2) (Aa (pv 1) Ai))))))
   (Ae (Bh (i:=6) sc.nd rfl (Or.inl rfl) (AH KCounts (hr.mono (by decide)) rfl))
   (Ae (Bh (i:=7) sc.nd rfl (Or.inl rfl) Rl)
   (Ae (Cj PassesOwn.never rfl (Do rfl T.n_range (Aa (Bo Ci rfl T.n_len (show zCx _=some (.builtin "len") from rfl) (Aa (pv 5) Ai)) Ai)) (Ay (i:=8) sc.nd rfl (Or.inl rfl))
    (Ae (Bh (i:=9) sc.nd rfl (Or.inl rfl) (Ax Csettle (hr.mono (by decide)) rfl (Aa (pv 4) (Aa (pv 6) (Aa (Bf Bp (pv 5) (pv 8) (fun _ _=>rfl)) Ai)))))
   (Ae (Bt (Df (Cr (Ax C_law_form (hr.mono (by decide)) rfl (Aa (pv 9) (Aa (Bf Bn (Bf Bp (pv 5) (pv 8) (fun _ _=>rfl)) Al (fun _ _=>rfl)) Ai)))))
    (An (Bc Ee))
    Bk)
   (Ae (Ct (Ax C_law_counted (hr.mono (by decide)) rfl (Aa (pv 3) (Aa (pv 7) (Aa (Bf Bp (pv 5) (pv 8) (fun _ _=>rfl)) (Aa (pv 9) Ai))))))
   (An (Bt (PW.pt (Jk (Bi Cf (Be Cb (pv 8) Al) Al (Bl _)) (Hg (Df (Cr (Ax C_law_kept (hr.mono (by decide)) rfl (Aa (pv 3) (Aa (pv 6) (Aa (pv 7) (Aa (pv 2) (Aa (pv 5) Ai)))))))))))
    (An (Bc Ee))
    Bk))))))
   (An (Bc (Uc (Ax C_law_kept (hr.mono (by decide)) rfl (Aa (pv 3) (Aa (pv 6) (Aa (pv 7) (Aa (pv 2) (Aa (pv 5) Ai)))))) (Ro (Dq Cf (Du Mhave (hr.mono (by decide)) (pv 6) (Aa Br (Aa Al (Aa Br Ai)))) Al (Bl _)))))))))))))),?_⟩
 refine (vE rfl ⟨a,ns,rfl,ha,l63,fun u H1 s1 uo=>?_⟩);refine Dz [some (.ref a),some (.int u),none,none,none,none,none,none,none,none] rfl ?_;refine (vE rfl ⟨a,ns,rfl,s1.seq ha,l63,fun wl A B C D H2 s2 wa W=>?_⟩);refine Dz [some (.ref a),some (.int u),some (.ref wl),none,none,none,none,none,none,none] rfl ?_;obtain⟨la,lb,lc,ld,hw,hwa,hwb,hwc,hwd⟩:=id wa;refine (vE rfl (vE rfl (vI rfl rfl (SqL.of hw) rfl (vE rfl (vI rfl rfl (SqL.of hw) rfl (vE rfl (vI rfl rfl (SqL.of hw) rfl (vE rfl ⟨a,ns,ld,lb,lc,u,B,C,D,rfl,(s1.trans s2).seq ha,l63,uo,hwd,hwb,hwc,W.lb,W.lc,fun z hz=>IR (W.b.ok z hz).1,fun z hz=>IR (W.c.ok z hz).1,W.ld,fun cl rows H3 s3 ncl hrows all enm=>?_⟩))))))));refine Dz [some (.ref a),some (.int u),some (.ref wl),some (.ref cl),none,none,none,none,none,none] rfl ?_;have lrows:rows.length<=5:=by
  have:=W.ld;rw[<- enm,zAb] at this;exact this
 refine (vE rfl ⟨cl,rows,rfl,hrows,all,by rw[enm]; exact W.d,fun bk bs H4 s4 ask eun=>?_⟩);refine Dz [some (.ref a),some (.int u),some (.ref wl),some (.ref cl),some (.ref bk),none,none,none,none,none] rfl ?_;have S4:=s1.trans (s2.trans (s3.trans s4));have wa4:=wa.same (s3.trans s4);refine (vE rfl (vE rfl (vE rfl ⟨a,ns,16,u,wl,A,B,C,D,rfl,S4.seq ha,l63,by decide,uo,wa4,W,fun ls xs zs H5 s5 nls hls lfs lz zpos=>?_⟩)));refine Dz [some (.ref a),some (.int u),some (.ref wl),some (.ref cl),some (.ref bk),some (.ref ls),none,none,none,none] rfl ?_;have wa5:=wa4.same s5;have ask5:=ask.same s5;have hrows5:=s5 _ _ (s4 _ _ hrows);have all5:∀ x∈rows,RwcAt H5 x/\Qf x:=fun x hx=>⟨(all x hx).1.same (s4.trans s5),(all x hx).2⟩;have nd:(bs.map (·.nm)).Nodup:=MA eun (by rw[enm]; exact W.d.nd);have hm:∀ x∈bs,Mv x.t<4:=fun x hx=>by
  obtain⟨r,hr',e⟩:=FC eun x hx;have e':x.t=r.t:=congrArg (·.2.1) e;rw[e'];have:=(all r hr').2.hg
  lia
 have lbs:=LI eun;have lx:=lfs.len;clear S4 wa4 ask hrows all wa hw hwa hwb hwc hwd s1 s2 s3 s4 s5 nls uo ncl ha;intro p dp np ndp nep;refine⟨p,dp,rfl,Ac,fun kp H6 k6 ct nkp=>⟨rfl,?_⟩⟩;have s6:Same H5 H6:=Fk np ndp k6;refine Dz [some (.ref a),some (.int u),some (.ref wl),some (.ref cl),some (.ref bk),some (.ref ls),some (.ref p),none,none,none] rfl ?_;intro d nd';have fk:H5 kp=none:=AA nkp;have two:TwoAt Ap H5 (upd H6 d (.dT [])) p kp d []:=by
  have ct':=ct.same (Ao nd' (.dT []));obtain⟨⟨dx,fs,e,r⟩,h1⟩:=id ct;exact⟨ct',Ac,(Aq h1 nd').symm,(Aq e nd').symm,fk,s6.free nd',s6.trans (Ao nd' _)⟩
 generalize upd H6 d (.dT [])=H7 at two;refine Dz [some (.ref a),some (.int u),some (.ref wl),some (.ref cl),some (.ref bk),some (.ref ls),some (.ref p),some (.ref d),none,none] rfl ?_;clear ct k6 s6 nkp;refine (vE rfl ⟨ls,_,rfl,.inl (SqL.of (two.s _ _ hls)),vE rfl ⟨by lia,by lia,?_⟩⟩);rw[show ((xs.length:Int)).toNat=zs.length by lia];refine Ep (lo:=0) (n:=zs.length) (fun i σ H8=>(∃ o8 o9,σ=[some (.ref a),some (.int u),some (.ref wl),some (.ref cl),some (.ref bk),some (.ref ls),some (.ref p),some (.ref d),o8,o9])/\∃ kvs,TwoAt Ap H5 H8 p kp d kvs/\IntV kvs/\kvs.length<=40*i/\JG kvs)
  ⟨⟨none,none,rfl⟩,[],two,(fun k v z=>by cases z),zAA _,rfl⟩ ?_ ?_
 ·rintro i σ H8 hi ⟨⟨o8,o9,rfl⟩,kvs,tw,iv,lk,n7⟩
  have ez:zs[i]?=some zs[i]:=zAe hi;have zp:=zpos zs[i] (zBb hi);generalize zs[i]=z at ez zp;have hxi:xs[i]?=some (xs[i]'(by lia)):=zAe _;obtain⟨l,z',ez',exi,hl⟩:=lfs.get hxi;rw[ez] at ez';cases ez';rw[exi] at hxi;have aj:Of xs (0+(i:Int))=some (.ref l):=by rw[show (0+(i:Int))=(i:Int) by lia]; exact Ge hxi
  refine Dz [some (.ref a),some (.int u),some (.ref wl),some (.ref cl),some (.ref bk),some (.ref ls),some (.ref p),some (.ref d),some (.int (0+(i:Int))),o9] rfl ?_;refine (vE rfl (vE rfl (vE rfl (vE rfl (vI rfl rfl (SqL.of (tw.s _ _ hls)) aj ⟨bk,p,kp,kvs,l,z,bs,rfl,ask5.same tw.s,hm,by lia,nd,tw.ct,iv,by lia,tw.s _ _ hl,zp,fun r ys S H9 k9 nr hr9 sts so l64 ct9=>?_⟩)))));refine Dz [some (.ref a),some (.int u),some (.ref wl),some (.ref cl),some (.ref bk),some (.ref ls),some (.ref p),some (.ref d),some (.int (0+(i:Int))),some (.ref r)] rfl ?_;have s9:Same H5 H9:=fun b o y=>k9 _ _ (tw.s _ _ y) (Aq y tw.fk);have hd9:=k9 _ _ tw.hd tw.ne;have fo:=D6 so (nd.sublist (List.Sublist.map _ (List.filter_sublist))) zp;have fb:=(U4 fo).2;have fk':=BQ so;refine (vE rfl (vE rfl (vE rfl (vI rfl rfl (SqL.of (s9 _ _ hls)) aj (vI rfl rfl (SqT.of (s9 _ _ hl)) rfl ⟨r,ys,S,z.ct,rfl,hr9,sts,fo,fun H10 s10=>(vE rfl (Dj ?_))⟩)))));have S10:=s9.trans s10;refine (vE rfl (vE rfl (vE rfl (vE rfl (vI rfl rfl (SqL.of (S10 _ _ hls)) aj (vE rfl ⟨cl,d,l,r,rows,kvs,z,ys,S,rfl,S10 _ _ hrows5,fun x hx=>⟨(all5 x hx).1.same S10,(all5 x hx).2⟩,by lia,s10 _ _ hd9,iv,by lia,S10 _ _ hl,s10 _ _ hr9,sts.mono (Bq s10),by lia,fun s hs=>⟨(fb s hs).1,(fb s hs).2,fk' s hs⟩,fun H11 k11 hd11=>?_⟩))))));have ct10:=ct9.same s10;rw[<- C3 z S (DR z eun)] at hd11;have la:(Dy z bs).length<=5:=zAE (zAG _ _) (by lia);have c3:∀ x∈Dy z bs,x.cs.length<=3:=fun x hx=>by
   obtain⟨r',hr',e⟩:=FC eun x (zAT.mp hx).1;have e':x.cs=r'.rs.map Dw:=congrArg (·.2.2.1) e;rw[e',zAb];exact (all5 r' hr').2.l3
  have tw11:TwoAt Ap H5 H11 p kp d (Eh z S (Dy z bs) kvs):=by
   obtain⟨⟨dx,fs,e,r'⟩,h1⟩:=ct10;exact⟨⟨⟨dx,fs,k11 _ _ e tw.np.symm,r'⟩,k11 _ _ h1 tw.ne.symm⟩,hd11,tw.ne,tw.np,tw.fk,tw.fd,fun b o y=>k11 _ _ (S10 _ _ y) (Aq y tw.fd)⟩
  have iv11:IntV (Eh z S (Dy z bs) kvs):=Lb iv;have l11:=Ky (z:=z) (S:=S) (xs:=Dy z bs) (k:=kvs) fun x hx=>by have:=c3 x hx; lia
  have n11:JG (Eh z S (Dy z bs) kvs):=V6 (fun x hx=>by have:=c3 x hx; lia) n7;generalize Eh z S (Dy z bs) kvs=K' at tw11 iv11 l11 n11;have lk':K'.length<=40*(i+1):=by lia
  clear ct9 ct10 hd11 k11 k9 hr9 sts so fo fb fk' hd9 s9 s10 S10 tw;refine (vE rfl (vF rfl rfl ⟨(by show (0:Int)<5; decide),rfl,vE rfl ?_⟩));by_cases c5:(0+(i:Int))%5=0
  ·refine dT (congrArg V.int c5) (vE rfl (vE rfl (vE rfl (vE rfl (vE rfl ⟨cl,p,kp,d,wl,ls,rows,K',xs,zs,A,B,C,D,rfl,tw11.s _ _ hrows5,fun x hx=>⟨(all5 x hx).1.same tw11.s,(all5 x hx).2⟩,tw11.ct,tw11.hd,iv11,tw11.s _ _ hls,lfs.mono (Bq tw11.s),by lia,wa5.same tw11.s,W,fun H12 s12=>(vE rfl (Dj ?_))⟩)))))
   exact⟨⟨_,_,rfl⟩,K',tw11.same s12,iv11,lk',n11⟩
  ·refine dF (fun e=>c5 (V.int.inj e)) (Dj ?_)
   exact⟨⟨_,_,rfl⟩,K',tw11,iv11,lk',n11⟩
 ·rintro σ H8 ⟨⟨o8,o9,rfl⟩,kvs,tw,iv,lk,n7⟩
  refine (vE rfl (vE rfl (vE rfl (vE rfl (vE rfl ⟨cl,p,kp,d,wl,ls,rows,kvs,xs,zs,A,B,C,D,rfl,tw.s _ _ hrows5,fun x hx=>⟨(all5 x hx).1.same tw.s,(all5 x hx).2⟩,tw.ct,tw.hd,iv,tw.s _ _ hls,lfs.mono (Bq tw.s),by lia,wa5.same tw.s,W,fun H9 s9=>(vE rfl ?_)⟩)))));have ct9:=tw.ct.same s9;obtain⟨⟨dx,fs,hp,b1,b2,b3⟩,_⟩:=id ct9;refine (vE rfl ⟨p,dx,fs,rfl,hp,b2,p,kp,kvs, "x",7,.inr "x",rfl,ct9,fun H10 s10=>?_⟩);have e:Lp kvs "x" 7 (.inr "x") = .int 0:=by
   unfold Lp;rw[show El kvs (Iy "x" 7 (.inr "x"))=none from n7];rfl
  rw[e];exact⟨rfl,q _⟩
end
theorem FN {P:Program} {w:World} {K:zAa} {mg:Str->Option Value} {base:Heap} {CX:AV} {k:Nat} {f:Addr} {fd:zCy} {ps:List Str} {sp:Sp} (h:∀ vs H Q E,¬ sp vs H Q E):FnOk P w K mg base CX k f fd ps sp:=
 ⟨fun vs H Q E z=>absurd z (h vs H Q E),fun _ _ _ _ _ _ _ _ _ _ _ _ _ z=>absurd z (h _ _ _ _)⟩
theorem all_mk {l:PySem.W.OpenLaw} {w:World} {K:zAa} {h:Heap} {mg:Str->Option Value} {fa:Addr} (X:K.In h) (G:h.Ns zCz mg) (hfa:mg "law" = some (.ref fa))
  {f0:Addr} (d0:DfIn K "is_whole" Me f0)
  {f1:Addr} (d1:DfIn K "has_letters_alone" Ef f1)
  {f2:Addr} (d2:DfIn K "is_name" Oz f2)
  {f3:Addr} (d3:DfIn K "is_amount" Kw f3)
  {f4:Addr} (d4:DfIn K "year_of" Po f4)
  {f5:Addr} (d5:DfIn K "checked_amount" Fg f5)
  {f6:Addr} (d6:DfIn K "cent_at" Pw f6)
  {f7:Addr} (d7:DfIn K "cut_within" Iu f7)
  {f8:Addr} (d8:DfIn K "lowest_of" Ke f8)
  {f9:Addr} (d9:DfIn K "left_of_run" Hs f9)
  {f10:Addr} (d10:DfIn K "cut_out" Ot f10)
  {f11:Addr} (d11:DfIn K "numbers_of" Io f11)
  {f12:Addr} (d12:DfIn K "asked_of" Lv f12)
  {f13:Addr} (d13:DfIn K "paid_runs" Jt f13)
  {f14:Addr} (d14:DfIn K "borne_strips" Gn f14)
  {f15:Addr} (d15:DfIn K "strips_of" Kv f15)
  {f16:Addr} (d16:DfIn K "paid_by" Op f16)
  {f17:Addr} (d17:DfIn K "count_for" Jq f17)
  {f18:Addr} (d18:DfIn K "settle" Sm f18)
  {f19:Addr} (d19:DfIn K "are_weights" Hm f19)
  {f20:Addr} (d20:DfIn K "may_have" Mc f20)
  {f21:Addr} (d21:DfIn K "due_by" Rm f21)
  {f22:Addr} (d22:DfIn K "place_of_turn" Fy f22)
  {f23:Addr} (d23:DfIn K "turns" Yv f23)
  {f24:Addr} (d24:DfIn K "check_houses" Gq f24)
  {f25:Addr} (d25:DfIn K "first_without" Fq f25)
  {f26:Addr} (d26:DfIn K "bounds_of" Kh f26)
  {f27:Addr} (d27:DfIn K "_law_cell" Km f27)
  {f28:Addr} (d28:DfIn K "_law_whole" Ir f28)
  {f29:Addr} (d29:DfIn K "_law_spread" Hj f29)
  {f30:Addr} (d30:DfIn K "_law_names" Jd f30)
  {f31:Addr} (d31:DfIn K "_law_amount" Ho f31)
  {f32:Addr} (d32:DfIn K "_law_world" Ij f32)
  {f33:Addr} (d33:DfIn K "_law_unit" Ki f33)
  {f34:Addr} (d34:DfIn K "_law_cond" Kd f34)
  {f35:Addr} (d35:DfIn K "_law_drawn_clause" Eg f35)
  {f36:Addr} (d36:DfIn K "_law_covers" Hl f36)
  {f37:Addr} (d37:DfIn K "_law_loss" Jv f37)
  {f38:Addr} (d38:DfIn K "_law_losses" Hk f38)
  {f39:Addr} (d39:DfIn K "_law_holds" Im f39)
  {f40:Addr} (d40:DfIn K "_law_key" Ms f40)
  {f41:Addr} (d41:DfIn K "_law_asked" Iz f41)
  {f42:Addr} (d42:DfIn K "_law_form" Jp f42)
  {f43:Addr} (d43:DfIn K "_law_paid" Kt f43)
  {f44:Addr} (d44:DfIn K "_law_counted" Gw f44)
  {f45:Addr} (d45:DfIn K "_law_condition" Ff f45)
  {f46:Addr} (d46:DfIn K "_law_clause" Hn f46)
  {f47:Addr} (d47:DfIn K "_law_book" Kc f47)
  {f48:Addr} (d48:DfIn K "_law_keys" Ko f48)
  {f49:Addr} (d49:DfIn K "_law_kept" Kk f49)
  {f50:Addr} (d50:DfIn K "law" Uj f50)
  {Ab:Addr} (q_Condition:ClIn K "Condition" Ab)
  {Ag:Addr} (q_CauseIs:ClIn K "CauseIs" Ag)
  (na_CauseIs_name:zAc K (.ref Ag) "name" = some none)
  {Af:Addr} (q_ThingIs:ClIn K "ThingIs" Af)
  (na_ThingIs_name:zAc K (.ref Af) "name" = some none)
  {Am:Addr} (q_DaysIn:ClIn K "DaysIn" Am)
  (na_DaysIn_first:zAc K (.ref Am) "first" = some none)
  (na_DaysIn_last:zAc K (.ref Am) "last" = some none)
  {At:Addr} (q_Over:ClIn K "Over" At)
  (na_Over_cents:zAc K (.ref At) "cents" = some none)
  {Ba:Addr} (q_Not:ClIn K "Not" Ba)
  (na_Not_part:zAc K (.ref Ba) "part" = some none)
  {Az:Addr} (q_All:ClIn K "All" Az)
  (na_All_several:zAc K (.ref Az) "several" = some none)
  {As:Addr} (q_Some:ClIn K "Some" As)
  (na_Some_several:zAc K (.ref As) "several" = some none)
  {Ad:Addr} (q_Clause:ClIn K "Clause" Ad)
  (na_Clause_by:zAc K (.ref Ad) "by" = some none)
  (ha_Clause:zAc K (.ref Ad) "__class__" = some (some (.builtin "object.__class__"))) (hm_Clause:zCs K Ad (.type "object")=some true)
  (gs:zCq K (.builtin "object.__class__") "__get__" = some (some (.builtin "getset_descriptor.__get__"))) (tk:PySem.W.takesIn K (.builtin "object.__class__")=some true)
  {Au:Addr} (q_Own:ClIn K "Own" Au)
  (na_Own_cents:zAc K (.ref Au) "cents" = some none)
  (na_Own_by:zAc K (.ref Au) "by" = some none)
  (ha_Own:zAc K (.ref Au) "__class__" = some (some (.builtin "object.__class__"))) (hm_Own:zCs K Au (.type "object")=some true)
  {Ak:Addr} (q_Layer:ClIn K "Layer" Ak)
  (na_Layer_first:zAc K (.ref Ak) "first" = some none)
  (na_Layer_upto:zAc K (.ref Ak) "upto" = some none)
  (na_Layer_by:zAc K (.ref Ak) "by" = some none)
  (ha_Layer:zAc K (.ref Ak) "__class__" = some (some (.builtin "object.__class__"))) (hm_Layer:zCs K Ak (.type "object")=some true)
  {Ah:Addr} (q_Limit:ClIn K "Limit" Ah)
  (na_Limit_most:zAc K (.ref Ah) "most" = some none)
  (na_Limit_by:zAc K (.ref Ah) "by" = some none)
  (ha_Limit:zAc K (.ref Ah) "__class__" = some (some (.builtin "object.__class__"))) (hm_Limit:zCs K Ah (.type "object")=some true)
  {Bg:Addr} (q_Deal:ClIn K "Deal" Bg)
  (na_Deal_wheel:zAc K (.ref Bg) "wheel" = some none)
  (na_Deal_weights:zAc K (.ref Bg) "weights" = some none)
  {Aj:Addr} (q_Cover:ClIn K "Cover" Aj)
  (na_Cover_name:zAc K (.ref Aj) "name" = some none)
  (na_Cover_condition:zAc K (.ref Aj) "condition" = some none)
  (na_Cover_clauses:zAc K (.ref Aj) "clauses" = some none)
  (na_Cover_houses:zAc K (.ref Aj) "houses" = some none)
  (na_Cover_deal:zAc K (.ref Aj) "deal" = some none)
  (na_Cover_waits:zAc K (.ref Aj) "waits" = some none)
  {Bb:Addr} (q_Book:ClIn K "Book" Bb)
  (na_Book_covers:zAc K (.ref Bb) "covers" = some none)
  (na_Book_asking:zAc K (.ref Bb) "asking" = some none)
  {Ap:Addr} (q_Counts:ClIn K "Counts" Ap)
  (na_Counts_kept:zAc K (.ref Ap) "kept" = some none)
  (kt_Clause_Limit:zAR K (.ref Ad) (.ref Ah)=some false)
  (kt_Own_Limit:zAR K (.ref Au) (.ref Ah)=some false)
  (kt_Layer_Limit:zAR K (.ref Ak) (.ref Ah)=some false)
  (kt_Limit_Limit:zAR K (.ref Ah) (.ref Ah)=some true)
  (nd_C:([Ab,Ag,Af,Am,At,Ba,Az,As,Ad,Au,Ak,Ah,Bg,Aj,Bb,Ap]:List Addr).Nodup)
  {fCondition_holds:Addr} (a_Condition_holds:zAc K (.ref Ab) "holds" = some (some (.ref fCondition_holds))) (iCondition_holds:MtIn K "holds" "Condition.holds" Ev fCondition_holds)
  {fCauseIs___init__:Addr} (a_CauseIs___init__:zAc K (.ref Ag) "__init__" = some (some (.ref fCauseIs___init__))) (iCauseIs___init__:MtIn K "__init__" "CauseIs.__init__" Eo fCauseIs___init__)
  {fCauseIs_holds:Addr} (a_CauseIs_holds:zAc K (.ref Ag) "holds" = some (some (.ref fCauseIs_holds))) (iCauseIs_holds:MtIn K "holds" "CauseIs.holds" Fv fCauseIs_holds)
  {fThingIs___init__:Addr} (a_ThingIs___init__:zAc K (.ref Af) "__init__" = some (some (.ref fThingIs___init__))) (iThingIs___init__:MtIn K "__init__" "ThingIs.__init__" En fThingIs___init__)
  {fThingIs_holds:Addr} (a_ThingIs_holds:zAc K (.ref Af) "holds" = some (some (.ref fThingIs_holds))) (iThingIs_holds:MtIn K "holds" "ThingIs.holds" Fu fThingIs_holds)
  {fDaysIn___init__:Addr} (a_DaysIn___init__:zAc K (.ref Am) "__init__" = some (some (.ref fDaysIn___init__))) (iDaysIn___init__:MtIn K "__init__" "DaysIn.__init__" Fe fDaysIn___init__)
  {fDaysIn_holds:Addr} (a_DaysIn_holds:zAc K (.ref Am) "holds" = some (some (.ref fDaysIn_holds))) (iDaysIn_holds:MtIn K "holds" "DaysIn.holds" Gz fDaysIn_holds)
  {fOver___init__:Addr} (a_Over___init__:zAc K (.ref At) "__init__" = some (some (.ref fOver___init__))) (iOver___init__:MtIn K "__init__" "Over.__init__" Fx fOver___init__)
  {fOver_holds:Addr} (a_Over_holds:zAc K (.ref At) "holds" = some (some (.ref fOver_holds))) (iOver_holds:MtIn K "holds" "Over.holds" Ip fOver_holds)
  {fNot___init__:Addr} (a_Not___init__:zAc K (.ref Ba) "__init__" = some (some (.ref fNot___init__))) (iNot___init__:MtIn K "__init__" "Not.__init__" Go fNot___init__)
  {fNot_holds:Addr} (a_Not_holds:zAc K (.ref Ba) "holds" = some (some (.ref fNot_holds))) (iNot_holds:MtIn K "holds" "Not.holds" Jz fNot_holds)
  {fAll___init__:Addr} (a_All___init__:zAc K (.ref Az) "__init__" = some (some (.ref fAll___init__))) (iAll___init__:MtIn K "__init__" "All.__init__" Gp fAll___init__)
  {fAll_holds:Addr} (a_All_holds:zAc K (.ref Az) "holds" = some (some (.ref fAll_holds))) (iAll_holds:MtIn K "holds" "All.holds" Kq fAll_holds)
  {fSome___init__:Addr} (a_Some___init__:zAc K (.ref As) "__init__" = some (some (.ref fSome___init__))) (iSome___init__:MtIn K "__init__" "Some.__init__" Ft fSome___init__)
  {fSome_holds:Addr} (a_Some_holds:zAc K (.ref As) "holds" = some (some (.ref fSome_holds))) (iSome_holds:MtIn K "holds" "Some.holds" Jc fSome_holds)
  {fClause___init__:Addr} (a_Clause___init__:zAc K (.ref Ad) "__init__" = some (some (.ref fClause___init__))) (iClause___init__:MtIn K "__init__" "Clause.__init__" Fd fClause___init__)
  {fClause_span:Addr} (a_Clause_span:zAc K (.ref Ad) "span" = some (some (.ref fClause_span))) (iClause_span:MtIn K "span" "Clause.span" Hq fClause_span)
  {fClause_room:Addr} (a_Clause_room:zAc K (.ref Ad) "room" = some (some (.ref fClause_room))) (iClause_room:MtIn K "room" "Clause.room" Ht fClause_room)
  {fClause_key:Addr} (a_Clause_key:zAc K (.ref Ad) "key" = some (some (.ref fClause_key))) (iClause_key:MtIn K "key" "Clause.key" Ix fClause_key)
  {fOwn___init__:Addr} (a_Own___init__:zAc K (.ref Au) "__init__" = some (some (.ref fOwn___init__))) (iOwn___init__:MtIn K "__init__" "Own.__init__" Gm fOwn___init__)
  {fOwn_span:Addr} (a_Own_span:zAc K (.ref Au) "span" = some (some (.ref fOwn_span))) (iOwn_span:MtIn K "span" "Own.span" Mn fOwn_span)
  {fLayer___init__:Addr} (a_Layer___init__:zAc K (.ref Ak) "__init__" = some (some (.ref fLayer___init__))) (iLayer___init__:MtIn K "__init__" "Layer.__init__" Fi fLayer___init__)
  {fLayer_span:Addr} (a_Layer_span:zAc K (.ref Ak) "span" = some (some (.ref fLayer_span))) (iLayer_span:MtIn K "span" "Layer.span" Jh fLayer_span)
  {fLimit___init__:Addr} (a_Limit___init__:zAc K (.ref Ah) "__init__" = some (some (.ref fLimit___init__))) (iLimit___init__:MtIn K "__init__" "Limit.__init__" Fj fLimit___init__)
  {fLimit_room:Addr} (a_Limit_room:zAc K (.ref Ah) "room" = some (some (.ref fLimit_room))) (iLimit_room:MtIn K "room" "Limit.room" Jf fLimit_room)
  {fDeal___init__:Addr} (a_Deal___init__:zAc K (.ref Bg) "__init__" = some (some (.ref fDeal___init__))) (iDeal___init__:MtIn K "__init__" "Deal.__init__" Fz fDeal___init__)
  {fCover___init__ dvCover___init__:Addr} {odCover___init__ anCover___init__:Option Addr} {slCover___init__:Array (Option Value)} {ocCover___init__ kVCover___init__ dcCover___init__ pmCover___init__ cdCover___init__ ctCover___init__:Value}
  (a_Cover___init__:zAc K (.ref Aj) "__init__" = some (some (.ref fCover___init__)))
  (iCover___init__:zCm K (.ref fCover___init__)=true) (lCover___init__:K.lookup fCover___init__=some ⟨ocCover___init__,odCover___init__,.func (zAV "__init__" "Cover.__init__" (Dk Cd) (De Cd) (Ar Cd) (.ref dvCover___init__) kVCover___init__ dcCover___init__ pmCover___init__ anCover___init__ cdCover___init__ ctCover___init__),slCover___init__⟩) (cCover___init__:zBm K cdCover___init__ "Cover.__init__" = true) (kCover___init__:zAQ K (.ref fCover___init__)=true)
  {ndCover___init__:Nat} (dlCover___init__:K.lookup dvCover___init__=some ⟨.type "tuple",none,.seq #[.none,.none,.bool false] ndCover___init__,#[]⟩)
  {fCover_asks:Addr} (a_Cover_asks:zAc K (.ref Aj) "asks" = some (some (.ref fCover_asks))) (iCover_asks:MtIn K "asks" "Cover.asks" Iq fCover_asks)
  {fCover_spans:Addr} (a_Cover_spans:zAc K (.ref Aj) "spans" = some (some (.ref fCover_spans))) (iCover_spans:MtIn K "spans" "Cover.spans" Hu fCover_spans)
  {fCover_window:Addr} (a_Cover_window:zAc K (.ref Aj) "window" = some (some (.ref fCover_window))) (iCover_window:MtIn K "window" "Cover.window" Gk fCover_window)
  {fCover_parts:Addr} (a_Cover_parts:zAc K (.ref Aj) "parts" = some (some (.ref fCover_parts))) (iCover_parts:MtIn K "parts" "Cover.parts" Hx fCover_parts)
  {fCover_rest:Addr} (a_Cover_rest:zAc K (.ref Aj) "rest" = some (some (.ref fCover_rest))) (iCover_rest:MtIn K "rest" "Cover.rest" Iw fCover_rest)
  {fBook___init__:Addr} (a_Book___init__:zAc K (.ref Bb) "__init__" = some (some (.ref fBook___init__))) (iBook___init__:MtIn K "__init__" "Book.__init__" Fw fBook___init__)
  {fCounts___init__:Addr} (a_Counts___init__:zAc K (.ref Ap) "__init__" = some (some (.ref fCounts___init__))) (iCounts___init__:MtIn K "__init__" "Counts.__init__" Fc fCounts___init__)
  {fCounts_have:Addr} (a_Counts_have:zAc K (.ref Ap) "have" = some (some (.ref fCounts_have))) (iCounts_have:MtIn K "have" "Counts.have" Hr fCounts_have)
  {fCounts_add:Addr} (a_Counts_add:zAc K (.ref Ap) "add" = some (some (.ref fCounts_add))) (iCounts_add:MtIn K "add" "Counts.add" Jg fCounts_add)
  (a_Own_room:zAc K (.ref Au) "room" = some (some (.ref fClause_room)))
  (a_Own_key:zAc K (.ref Au) "key" = some (some (.ref fClause_key)))
  (a_Layer_room:zAc K (.ref Ak) "room" = some (some (.ref fClause_room)))
  (a_Layer_key:zAc K (.ref Ak) "key" = some (some (.ref fClause_key)))
  (a_Limit_span:zAc K (.ref Ah) "span" = some (some (.ref fClause_span)))
  (a_Limit_key:zAc K (.ref Ah) "key" = some (some (.ref fClause_key)))
  (bg_Clause___init__:zCq K (.ref Ad) "__getattribute__" = some (some (.builtin "type.__getattribute__"))) (br_Clause___init__:PySem.W.readsIn K Ad (.type "type")=true) (bf_Clause___init__:PySem.W.findCls K (.ref Ad) (.type "type") "__init__" = some (.val (.ref fClause___init__)))
  (ni_Condition:zAc K (.ref Ab) "__init__" = some (some (.builtin "object.__init__")))
  {w_WAYS:Addr} {nw_WAYS:Nat} {tk_WAYS0 tk_WAYS1 tk_WAYS2 tk_WAYS3:Tok} (z_WAYS:zAF K zCz "WAYS" = some (some (.ref w_WAYS))) (lw_WAYS:K.lookup w_WAYS=some ⟨.type "tuple",none,.seq #[.str "event" tk_WAYS0,.str "thing" tk_WAYS1,.str "year" tk_WAYS2,.str "loss" tk_WAYS3] nw_WAYS,#[]⟩)
  {tk_CAUSE:Tok} (z_CAUSE:zAF K zCz "CAUSE" = some (some (.int 4 tk_CAUSE)))
  {tk_CENTS:Tok} (z_CENTS:zAF K zCz "CENTS" = some (some (.int 5 tk_CENTS)))
  {tk_COVERED_ONE:Tok} (z_COVERED_ONE:zAF K zCz "COVERED_ONE" = some (some (.str "self" tk_COVERED_ONE)))
  {tk_DAY:Tok} (z_DAY:zAF K zCz "DAY" = some (some (.int 1 tk_DAY)))
  {tk_DAYS_OF_YEAR:Tok} (z_DAYS_OF_YEAR:zAF K zCz "DAYS_OF_YEAR" = some (some (.int 365 tk_DAYS_OF_YEAR)))
  {tk_EVENT:Tok} (z_EVENT:zAF K zCz "EVENT" = some (some (.int 2 tk_EVENT)))
  {tk_LETTERS:Tok} (z_LETTERS:zAF K zCz "LETTERS" = some (some (.str "abcdefghijklmnopqrstuvwxyz" tk_LETTERS)))
  {tk_LONGEST_NAME:Tok} (z_LONGEST_NAME:zAF K zCz "LONGEST_NAME" = some (some (.int 8 tk_LONGEST_NAME)))
  {tk_MOST_CENTS:Tok} (z_MOST_CENTS:zAF K zCz "MOST_CENTS" = some (some (.int 999999999999 tk_MOST_CENTS)))
  {tk_MOST_CLAUSES:Tok} (z_MOST_CLAUSES:zAF K zCz "MOST_CLAUSES" = some (some (.int 8 tk_MOST_CLAUSES)))
  {tk_MOST_COVERS:Tok} (z_MOST_COVERS:zAF K zCz "MOST_COVERS" = some (some (.int 8 tk_MOST_COVERS)))
  {tk_MOST_PLACES:Tok} (z_MOST_PLACES:zAF K zCz "MOST_PLACES" = some (some (.int 8 tk_MOST_PLACES)))
  {tk_MOST_TURNS:Tok} (z_MOST_TURNS:zAF K zCz "MOST_TURNS" = some (some (.int 100 tk_MOST_TURNS)))
  {tk_NUMBER:Tok} (z_NUMBER:zAF K zCz "NUMBER" = some (some (.int 0 tk_NUMBER)))
  {tk_THING:Tok} (z_THING:zAF K zCz "THING" = some (some (.int 3 tk_THING)))
  (z_bool:zAF K zCz "bool" = some none)
  (z_enumerate:zAF K zCz "enumerate" = some none)
  (z_int:zAF K zCz "int" = some none)
  (z_isinstance:zAF K zCz "isinstance" = some none)
  (z_len:zAF K zCz "len" = some none)
  (z_list:zAF K zCz "list" = some none)
  (z_max:zAF K zCz "max" = some none)
  (z_min:zAF K zCz "min" = some none)
  (z_range:zAF K zCz "range" = some none)
  (z_set:zAF K zCz "set" = some none)
  (z_sorted:zAF K zCz "sorted" = some none)
  (z_str:zAF K zCz "str" = some none)
  (z_sum:zAF K zCz "sum" = some none)
  (z_tuple:zAF K zCz "tuple" = some none)
  (z_zip:zAF K zCz "zip" = some none) :
  ∃ fd:zCy,(∀ (s:Shared) (v:Value),BindsTo s fd ⟨[v],[]⟩ [("_law_script",v)])/\∀ base:Heap,K.In base->base.Ns zCz mg->FnOk l.prog w K mg base Da 9 fa fd ["_law_script"] (X7 K):=by
 have e:=hfa.symm.trans (zAx X G d50.ns);cases e;have D_is_whole:=d0.df X G (ps:=["thing"]) fun _ _ _ _ _ _=>G9 fun _=>rfl;have D_has_letters_alone:=d1.df X G (ps:=["text"]) fun _ _ _ _ _ _=>G9 fun _=>rfl;have D_is_name:=d2.df X G (ps:=["thing"]) fun _ _ _ _ _ _=>G9 fun _=>rfl;have D_is_amount:=d3.df X G (ps:=["thing"]) fun _ _ _ _ _ _=>G9 fun _=>rfl;have D_year_of:=d4.df X G (ps:=["day"]) fun _ _ _ _ _ _=>G9 fun _=>rfl;have D_checked_amount:=d5.df X G (ps:=["thing"]) fun _ _ _ _ _ _=>G9 fun _=>rfl;have D_cent_at:=d6.df X G (ps:=["bound", "count", "cents"]) fun _ _ _ _ _ _=>Zt fun _ _ _=>rfl;have D_cut_within:=d7.df X G (ps:=["runs", "lo", "hi"]) fun _ _ _ _ _ _=>Zt fun _ _ _=>rfl;have D_lowest_of:=d8.df X G (ps:=["runs", "n"]) fun _ _ _ _ _ _=>Jn fun _ _=>rfl;have D_left_of_run:=d9.df X G (ps:=["run", "others"]) fun _ _ _ _ _ _=>Jn fun _ _=>rfl;have D_cut_out:=d10.df X G (ps:=["runs", "others"]) fun _ _ _ _ _ _=>Jn fun _ _=>rfl;have D_numbers_of:=d11.df X G (ps:=["cover", "counts", "loss"]) fun _ _ _ _ _ _=>Zt fun _ _ _=>rfl;have D_asked_of:=d12.df X G (ps:=["book", "loss"]) fun _ _ _ _ _ _=>Jn fun _ _=>rfl;have D_paid_runs:=d13.df X G (ps:=["cover", "numbers", "cents", "unpaid"]) fun _ _ _ _ _ _=>HS fun _ _ _ _=>rfl;have D_borne_strips:=d14.df X G (ps:=["cover", "numbers", "cents", "unpaid"]) fun _ _ _ _ _ _=>HS fun _ _ _ _=>rfl;have D_strips_of:=d15.df X G (ps:=["book", "counts", "loss"]) fun _ _ _ _ _ _=>Zt fun _ _ _=>rfl;have D_paid_by:=d16.df X G (ps:=["name", "strips"]) fun _ _ _ _ _ _=>Jn fun _ _=>rfl
 have D_count_for:=d17.df X G (ps:=["cover", "counts", "loss", "paid"]) fun _ _ _ _ _ _=>HS fun _ _ _ _=>rfl;have D_settle:=d18.df X G (ps:=["book", "counts", "loss"]) fun _ _ _ _ _ _=>Zt fun _ _ _=>rfl;have D_are_weights:=d19.df X G (ps:=["thing"]) fun _ _ _ _ _ _=>G9 fun _=>rfl;have D_may_have:=d20.df X G (ps:=["weight", "dealt", "total", "turn"]) fun _ _ _ _ _ _=>HS fun _ _ _ _=>rfl;have D_due_by:=d21.df X G (ps:=["weight", "dealt", "total"]) fun _ _ _ _ _ _=>Zt fun _ _ _=>rfl;have D_place_of_turn:=d22.df X G (ps:=["weights", "dealt", "turn"]) fun _ _ _ _ _ _=>Zt fun _ _ _=>rfl;have D_turns:=d23.df X G (ps:=["weights"]) fun _ _ _ _ _ _=>G9 fun _=>rfl;have D_check_houses:=d24.df X G (ps:=["houses"]) fun _ _ _ _ _ _=>G9 fun _=>rfl;have D_first_without:=d25.df X G (ps:=["spans", "cent"]) fun _ _ _ _ _ _=>Jn fun _ _=>rfl;have D_bounds_of:=d26.df X G (ps:=["spans", "cents"]) fun _ _ _ _ _ _=>Jn fun _ _=>rfl;have D__law_cell:=d27.df X G (ps:=["_law_script", "_law_k"]) fun _ _ _ _ _ _=>Jn fun _ _=>rfl;have D__law_whole:=d28.df X G (ps:=["_law_found"]) fun _ _ _ _ _ _=>G9 fun _=>rfl;have D__law_spread:=d29.df X G (ps:=["_law_cell_here"]) fun _ _ _ _ _ _=>G9 fun _=>rfl;have D__law_names:=d30.df X G (ps:=["_law_cell_here", "_law_many"]) fun _ _ _ _ _ _=>Jn fun _ _=>rfl;have D__law_amount:=d31.df X G (ps:=["_law_digit", "_law_unit_here"]) fun _ _ _ _ _ _=>Jn fun _ _=>rfl;have D__law_world:=d32.df X G (ps:=["_law_script", "_law_most"]) fun _ _ _ _ _ _=>Jn fun _ _=>rfl;have D__law_unit:=d33.df X G (ps:=["_law_script"]) fun _ _ _ _ _ _=>G9 fun _=>rfl
 have D__law_cond:=d34.df X G (ps:=["_law_cell_here", "_law_things", "_law_causes", "_law_unit_here"]) fun _ _ _ _ _ _=>HS fun _ _ _ _=>rfl;have D__law_drawn_clause:=d35.df X G (ps:=["_law_cell_here", "_law_unit_here"]) fun _ _ _ _ _ _=>Jn fun _ _=>rfl;have D__law_covers:=d36.df X G (ps:=["_law_script", "_law_names_here", "_law_things", "_law_causes", "_law_unit_here"]) fun _ _ _ _ _ _=>OM fun _ _ _ _ _=>rfl;have D__law_loss:=d37.df X G (ps:=["_law_cell_here", "_law_world_here", "_law_unit_here"]) fun _ _ _ _ _ _=>Zt fun _ _ _=>rfl;have D__law_losses:=d38.df X G (ps:=["_law_script", "_law_many", "_law_world_here", "_law_unit_here"]) fun _ _ _ _ _ _=>HS fun _ _ _ _=>rfl;have D__law_holds:=d39.df X G (ps:=["_law_cond_here", "_law_loss_here"]) fun _ _ _ _ _ _=>Jn fun _ _=>rfl;have D__law_key:=d40.df X G (ps:=["_law_by", "_law_loss_here"]) fun _ _ _ _ _ _=>Jn fun _ _=>rfl;have D__law_asked:=d41.df X G (ps:=["_law_covers_here", "_law_loss_here"]) fun _ _ _ _ _ _=>Jn fun _ _=>rfl;have D__law_form:=d42.df X G (ps:=["_law_strips", "_law_cents"]) fun _ _ _ _ _ _=>Jn fun _ _=>rfl;have D__law_paid:=d43.df X G (ps:=["_law_strips", "_law_name", "_law_i"]) fun _ _ _ _ _ _=>Zt fun _ _ _=>rfl;have D__law_counted:=d44.df X G (ps:=["_law_covers_here", "_law_had_of", "_law_loss_here", "_law_strips"]) fun _ _ _ _ _ _=>HS fun _ _ _ _=>rfl;have D__law_condition:=d45.df X G (ps:=["_law_cond_here"]) fun _ _ _ _ _ _=>G9 fun _=>rfl;have D__law_clause:=d46.df X G (ps:=["_law_clause_here"]) fun _ _ _ _ _ _=>G9 fun _=>rfl
 have D__law_book:=d47.df X G (ps:=["_law_covers_here"]) fun _ _ _ _ _ _=>G9 fun _=>rfl;have D__law_keys:=d48.df X G (ps:=["_law_by", "_law_losses_here", "_law_world_here"]) fun _ _ _ _ _ _=>Zt fun _ _ _=>rfl;have D__law_kept:=d49.df X G (ps:=["_law_covers_here", "_law_counts", "_law_had_of", "_law_world_here", "_law_losses_here"]) fun _ _ _ _ _ _=>OM fun _ _ _ _ _=>rfl;obtain⟨od50,an50,sl50,oc50,kV50,dc50,pm50,cd50,ct50,l50,c50⟩:=d50.ex;have F50:=K9 (x := "law") (qual := "law") (st:=Uj) l50 c50 d50.kp;obtain⟨_,F_Condition_holds,B_Condition_holds⟩:=iCondition_holds.get (ps:=["self", "loss"]) fun _ _ _ _ _ _=>Jn fun _ _=>rfl;obtain⟨_,F_CauseIs___init__,B_CauseIs___init__⟩:=iCauseIs___init__.get (ps:=["self", "name"]) fun _ _ _ _ _ _=>Jn fun _ _=>rfl;obtain⟨_,F_CauseIs_holds,B_CauseIs_holds⟩:=iCauseIs_holds.get (ps:=["self", "loss"]) fun _ _ _ _ _ _=>Jn fun _ _=>rfl;obtain⟨_,F_ThingIs___init__,B_ThingIs___init__⟩:=iThingIs___init__.get (ps:=["self", "name"]) fun _ _ _ _ _ _=>Jn fun _ _=>rfl;obtain⟨_,F_ThingIs_holds,B_ThingIs_holds⟩:=iThingIs_holds.get (ps:=["self", "loss"]) fun _ _ _ _ _ _=>Jn fun _ _=>rfl;obtain⟨_,F_DaysIn___init__,B_DaysIn___init__⟩:=iDaysIn___init__.get (ps:=["self", "first", "last"]) fun _ _ _ _ _ _=>Zt fun _ _ _=>rfl;obtain⟨_,F_DaysIn_holds,B_DaysIn_holds⟩:=iDaysIn_holds.get (ps:=["self", "loss"]) fun _ _ _ _ _ _=>Jn fun _ _=>rfl;obtain⟨_,F_Over___init__,B_Over___init__⟩:=iOver___init__.get (ps:=["self", "cents"]) fun _ _ _ _ _ _=>Jn fun _ _=>rfl
 obtain⟨_,F_Over_holds,B_Over_holds⟩:=iOver_holds.get (ps:=["self", "loss"]) fun _ _ _ _ _ _=>Jn fun _ _=>rfl;obtain⟨_,F_Not___init__,B_Not___init__⟩:=iNot___init__.get (ps:=["self", "part"]) fun _ _ _ _ _ _=>Jn fun _ _=>rfl;obtain⟨_,F_Not_holds,B_Not_holds⟩:=iNot_holds.get (ps:=["self", "loss"]) fun _ _ _ _ _ _=>Jn fun _ _=>rfl;obtain⟨_,F_All___init__,B_All___init__⟩:=iAll___init__.get (ps:=["self", "several"]) fun _ _ _ _ _ _=>Jn fun _ _=>rfl;obtain⟨_,F_All_holds,B_All_holds⟩:=iAll_holds.get (ps:=["self", "loss"]) fun _ _ _ _ _ _=>Jn fun _ _=>rfl;obtain⟨_,F_Some___init__,B_Some___init__⟩:=iSome___init__.get (ps:=["self", "several"]) fun _ _ _ _ _ _=>Jn fun _ _=>rfl;obtain⟨_,F_Some_holds,B_Some_holds⟩:=iSome_holds.get (ps:=["self", "loss"]) fun _ _ _ _ _ _=>Jn fun _ _=>rfl;obtain⟨_,F_Clause___init__,B_Clause___init__⟩:=iClause___init__.get (ps:=["self", "by"]) fun _ _ _ _ _ _=>Jn fun _ _=>rfl;obtain⟨_,F_Clause_span,B_Clause_span⟩:=iClause_span.get (ps:=["self", "count", "cents"]) fun _ _ _ _ _ _=>Zt fun _ _ _=>rfl;obtain⟨_,F_Clause_room,B_Clause_room⟩:=iClause_room.get (ps:=["self", "paid"]) fun _ _ _ _ _ _=>Jn fun _ _=>rfl;obtain⟨_,F_Clause_key,B_Clause_key⟩:=iClause_key.get (ps:=["self", "loss"]) fun _ _ _ _ _ _=>Jn fun _ _=>rfl;obtain⟨_,F_Own___init__,B_Own___init__⟩:=iOwn___init__.get (ps:=["self", "by", "cents"]) fun _ _ _ _ _ _=>Zt fun _ _ _=>rfl;obtain⟨_,F_Own_span,B_Own_span⟩:=iOwn_span.get (ps:=["self", "count", "cents"]) fun _ _ _ _ _ _=>Zt fun _ _ _=>rfl
 obtain⟨_,F_Layer___init__,B_Layer___init__⟩:=iLayer___init__.get (ps:=["self", "by", "first", "upto"]) fun _ _ _ _ _ _=>HS fun _ _ _ _=>rfl;obtain⟨_,F_Layer_span,B_Layer_span⟩:=iLayer_span.get (ps:=["self", "count", "cents"]) fun _ _ _ _ _ _=>Zt fun _ _ _=>rfl;obtain⟨_,F_Limit___init__,B_Limit___init__⟩:=iLimit___init__.get (ps:=["self", "by", "most"]) fun _ _ _ _ _ _=>Zt fun _ _ _=>rfl;obtain⟨_,F_Limit_room,B_Limit_room⟩:=iLimit_room.get (ps:=["self", "paid"]) fun _ _ _ _ _ _=>Jn fun _ _=>rfl;obtain⟨_,F_Deal___init__,B_Deal___init__⟩:=iDeal___init__.get (ps:=["self", "weights"]) fun _ _ _ _ _ _=>Jn fun _ _=>rfl;have F_Cover___init__:=GA (x := "__init__") (qual := "Cover.__init__") (st:=Cd) lCover___init__ cCover___init__ kCover___init__;have B_Cover___init__:Binds K _ ["self", "name", "condition", "clauses", "houses", "waits"] []:=fun s us X hl=>by
  rw[zAU] at hl ⊢
  match us,hl with | [_,_,_,_,_,_],_=>exact BindsTo.of_defaults (fd:=zAV "__init__" "Cover.__init__" (Dk Cd) (De Cd) (Ar Cd) (.ref dvCover___init__) kVCover___init__ dcCover___init__ pmCover___init__ anCover___init__ cdCover___init__ ctCover___init__) rfl (X _ _ dlCover___init__) rfl rfl rfl
 obtain⟨_,F_Cover_asks,B_Cover_asks⟩:=iCover_asks.get (ps:=["self", "loss"]) fun _ _ _ _ _ _=>Jn fun _ _=>rfl;obtain⟨_,F_Cover_spans,B_Cover_spans⟩:=iCover_spans.get (ps:=["self", "counts", "cents"]) fun _ _ _ _ _ _=>Zt fun _ _ _=>rfl;obtain⟨_,F_Cover_window,B_Cover_window⟩:=iCover_window.get (ps:=["self", "counts", "cents"]) fun _ _ _ _ _ _=>Zt fun _ _ _=>rfl;obtain⟨_,F_Cover_parts,B_Cover_parts⟩:=iCover_parts.get (ps:=["self", "counts", "cents"]) fun _ _ _ _ _ _=>Zt fun _ _ _=>rfl;obtain⟨_,F_Cover_rest,B_Cover_rest⟩:=iCover_rest.get (ps:=["self", "counts"]) fun _ _ _ _ _ _=>Jn fun _ _=>rfl;obtain⟨_,F_Book___init__,B_Book___init__⟩:=iBook___init__.get (ps:=["self", "covers"]) fun _ _ _ _ _ _=>Jn fun _ _=>rfl;obtain⟨_,F_Counts___init__,B_Counts___init__⟩:=iCounts___init__.get (ps:=["self"]) fun _ _ _ _ _ _=>G9 fun _=>rfl;obtain⟨_,F_Counts_have,B_Counts_have⟩:=iCounts_have.get (ps:=["self", "name", "k", "key"]) fun _ _ _ _ _ _=>HS fun _ _ _ _=>rfl;obtain⟨_,F_Counts_add,B_Counts_add⟩:=iCounts_add.get (ps:=["self", "name", "k", "key", "cents"]) fun _ _ _ _ _ _=>OM fun _ _ _ _ _=>rfl;have H_Condition_holds:Em K Ab "holds" fCondition_holds:=⟨a_Condition_holds,iCondition_holds.fn,iCondition_holds.kp⟩;have H_CauseIs_make:Mk K Ag fCauseIs___init__:=⟨q_CauseIs.mi,a_CauseIs___init__,iCauseIs___init__.fn,q_CauseIs.kp⟩;have H_CauseIs_holds:Em K Ag "holds" fCauseIs_holds:=⟨a_CauseIs_holds,iCauseIs_holds.fn,iCauseIs_holds.kp⟩;have H_ThingIs_make:Mk K Af fThingIs___init__:=⟨q_ThingIs.mi,a_ThingIs___init__,iThingIs___init__.fn,q_ThingIs.kp⟩
 have H_ThingIs_holds:Em K Af "holds" fThingIs_holds:=⟨a_ThingIs_holds,iThingIs_holds.fn,iThingIs_holds.kp⟩;have H_DaysIn_make:Mk K Am fDaysIn___init__:=⟨q_DaysIn.mi,a_DaysIn___init__,iDaysIn___init__.fn,q_DaysIn.kp⟩;have H_DaysIn_holds:Em K Am "holds" fDaysIn_holds:=⟨a_DaysIn_holds,iDaysIn_holds.fn,iDaysIn_holds.kp⟩;have H_Over_make:Mk K At fOver___init__:=⟨q_Over.mi,a_Over___init__,iOver___init__.fn,q_Over.kp⟩;have H_Over_holds:Em K At "holds" fOver_holds:=⟨a_Over_holds,iOver_holds.fn,iOver_holds.kp⟩;have H_Not_make:Mk K Ba fNot___init__:=⟨q_Not.mi,a_Not___init__,iNot___init__.fn,q_Not.kp⟩;have H_Not_holds:Em K Ba "holds" fNot_holds:=⟨a_Not_holds,iNot_holds.fn,iNot_holds.kp⟩;have H_All_make:Mk K Az fAll___init__:=⟨q_All.mi,a_All___init__,iAll___init__.fn,q_All.kp⟩;have H_All_holds:Em K Az "holds" fAll_holds:=⟨a_All_holds,iAll_holds.fn,iAll_holds.kp⟩;have H_Some_make:Mk K As fSome___init__:=⟨q_Some.mi,a_Some___init__,iSome___init__.fn,q_Some.kp⟩;have H_Some_holds:Em K As "holds" fSome_holds:=⟨a_Some_holds,iSome_holds.fn,iSome_holds.kp⟩;have H_Clause_make:Mk K Ad fClause___init__:=⟨q_Clause.mi,a_Clause___init__,iClause___init__.fn,q_Clause.kp⟩;have H_Clause_span:Em K Ad "span" fClause_span:=⟨a_Clause_span,iClause_span.fn,iClause_span.kp⟩;have H_Clause_room:Em K Ad "room" fClause_room:=⟨a_Clause_room,iClause_room.fn,iClause_room.kp⟩;have H_Clause_key:Em K Ad "key" fClause_key:=⟨a_Clause_key,iClause_key.fn,iClause_key.kp⟩;have H_Own_make:Mk K Au fOwn___init__:=⟨q_Own.mi,a_Own___init__,iOwn___init__.fn,q_Own.kp⟩
 have H_Own_span:Em K Au "span" fOwn_span:=⟨a_Own_span,iOwn_span.fn,iOwn_span.kp⟩;have H_Own_room:Em K Au "room" fClause_room:=⟨a_Own_room,iClause_room.fn,iClause_room.kp⟩;have H_Own_key:Em K Au "key" fClause_key:=⟨a_Own_key,iClause_key.fn,iClause_key.kp⟩;have H_Layer_make:Mk K Ak fLayer___init__:=⟨q_Layer.mi,a_Layer___init__,iLayer___init__.fn,q_Layer.kp⟩;have H_Layer_span:Em K Ak "span" fLayer_span:=⟨a_Layer_span,iLayer_span.fn,iLayer_span.kp⟩;have H_Layer_room:Em K Ak "room" fClause_room:=⟨a_Layer_room,iClause_room.fn,iClause_room.kp⟩;have H_Layer_key:Em K Ak "key" fClause_key:=⟨a_Layer_key,iClause_key.fn,iClause_key.kp⟩;have H_Limit_make:Mk K Ah fLimit___init__:=⟨q_Limit.mi,a_Limit___init__,iLimit___init__.fn,q_Limit.kp⟩;have H_Limit_span:Em K Ah "span" fClause_span:=⟨a_Limit_span,iClause_span.fn,iClause_span.kp⟩;have H_Limit_room:Em K Ah "room" fLimit_room:=⟨a_Limit_room,iLimit_room.fn,iLimit_room.kp⟩;have H_Limit_key:Em K Ah "key" fClause_key:=⟨a_Limit_key,iClause_key.fn,iClause_key.kp⟩;have H_Deal_make:Mk K Bg fDeal___init__:=⟨q_Deal.mi,a_Deal___init__,iDeal___init__.fn,q_Deal.kp⟩;have H_Cover_make:Mk K Aj fCover___init__:=⟨q_Cover.mi,a_Cover___init__,iCover___init__,q_Cover.kp⟩;have H_Cover_asks:Em K Aj "asks" fCover_asks:=⟨a_Cover_asks,iCover_asks.fn,iCover_asks.kp⟩;have H_Cover_spans:Em K Aj "spans" fCover_spans:=⟨a_Cover_spans,iCover_spans.fn,iCover_spans.kp⟩;have H_Cover_window:Em K Aj "window" fCover_window:=⟨a_Cover_window,iCover_window.fn,iCover_window.kp⟩
 have H_Cover_parts:Em K Aj "parts" fCover_parts:=⟨a_Cover_parts,iCover_parts.fn,iCover_parts.kp⟩;have H_Cover_rest:Em K Aj "rest" fCover_rest:=⟨a_Cover_rest,iCover_rest.fn,iCover_rest.kp⟩;have H_Book_make:Mk K Bb fBook___init__:=⟨q_Book.mi,a_Book___init__,iBook___init__.fn,q_Book.kp⟩;have H_Counts_make:Mk K Ap fCounts___init__:=⟨q_Counts.mi,a_Counts___init__,iCounts___init__.fn,q_Counts.kp⟩;have H_Counts_have:Em K Ap "have" fCounts_have:=⟨a_Counts_have,iCounts_have.fn,iCounts_have.kp⟩;have H_Counts_add:Em K Ap "add" fCounts_add:=⟨a_Counts_add,iCounts_add.fn,iCounts_add.kp⟩;have Z_Clause___init__:EA K Ad "__init__" fClause___init__:=⟨bg_Clause___init__,br_Clause___init__,bf_Clause___init__,iClause___init__.kp⟩;have NCondition:OD K mg "Condition" Ab:=⟨q_Condition.mi,ni_Condition,q_Condition.kp,zAx X G q_Condition.ns⟩;have L:Kl K mg Ab Ag Af Am At Ba Az As Ad Au Ak Ah Bg Aj Bb Ap:=⟨zAx X G q_Condition.ns,q_Condition.cl,zAx X G q_CauseIs.ns,q_CauseIs.cl,na_CauseIs_name,zAx X G q_ThingIs.ns,q_ThingIs.cl,na_ThingIs_name,zAx X G q_DaysIn.ns,q_DaysIn.cl,na_DaysIn_first,na_DaysIn_last,zAx X G q_Over.ns,q_Over.cl,na_Over_cents,zAx X G q_Not.ns,q_Not.cl,na_Not_part,zAx X G q_All.ns,q_All.cl,na_All_several,zAx X G q_Some.ns,q_Some.cl,na_Some_several,zAx X G q_Clause.ns,q_Clause.cl,na_Clause_by,fun e=>.ins e q_Clause.cl ha_Clause gs tk hm_Clause,zAx X G q_Own.ns,q_Own.cl,na_Own_cents,na_Own_by,fun e=>.ins e q_Own.cl ha_Own gs tk hm_Own,zAx X G q_Layer.ns,q_Layer.cl,na_Layer_first,na_Layer_upto,na_Layer_by,fun e=>.ins e q_Layer.cl ha_Layer gs tk hm_Layer,zAx X G q_Limit.ns,q_Limit.cl,na_Limit_most,na_Limit_by,fun e=>.ins e q_Limit.cl ha_Limit gs tk hm_Limit,zAx X G q_Deal.ns,q_Deal.cl,na_Deal_wheel,na_Deal_weights,zAx X G q_Cover.ns,q_Cover.cl,na_Cover_name,na_Cover_condition,na_Cover_clauses,na_Cover_houses,na_Cover_deal,na_Cover_waits,zAx X G q_Book.ns,q_Book.cl,na_Book_covers,na_Book_asking,zAx X G q_Counts.ns,q_Counts.cl,na_Counts_kept,kt_Clause_Limit,kt_Own_Limit,kt_Layer_Limit,kt_Limit_Limit,nd_C⟩
 have T:Txt K mg:=⟨⟨tk_CAUSE,zAx X G z_CAUSE⟩,⟨tk_CENTS,zAx X G z_CENTS⟩,⟨tk_COVERED_ONE,zAx X G z_COVERED_ONE⟩,⟨tk_DAY,zAx X G z_DAY⟩,⟨tk_DAYS_OF_YEAR,zAx X G z_DAYS_OF_YEAR⟩,⟨tk_EVENT,zAx X G z_EVENT⟩,⟨tk_LETTERS,zAx X G z_LETTERS⟩,⟨tk_LONGEST_NAME,zAx X G z_LONGEST_NAME⟩,⟨tk_MOST_CENTS,zAx X G z_MOST_CENTS⟩,⟨tk_MOST_CLAUSES,zAx X G z_MOST_CLAUSES⟩,⟨tk_MOST_COVERS,zAx X G z_MOST_COVERS⟩,⟨tk_MOST_PLACES,zAx X G z_MOST_PLACES⟩,⟨tk_MOST_TURNS,zAx X G z_MOST_TURNS⟩,⟨tk_NUMBER,zAx X G z_NUMBER⟩,⟨tk_THING,zAx X G z_THING⟩,zAM X G z_bool,zAM X G z_enumerate,zAM X G z_int,zAM X G z_isinstance,zAM X G z_len,zAM X G z_list,zAM X G z_max,zAM X G z_min,zAM X G z_range,zAM X G z_set,zAM X G z_sorted,zAM X G z_str,zAM X G z_sum,zAM X G z_tuple,zAM X G z_zip,⟨w_WAYS,zAx X G z_WAYS,fun H=>.inr ⟨_,_,_,lw_WAYS,rfl,rfl,by show 4<=sizeLine; rw[zCw]; decide,.cons ⟨_,rfl⟩ (.cons ⟨_,rfl⟩ (.cons ⟨_,rfl⟩ (.cons ⟨_,rfl⟩ (.nil))))⟩⟩⟩;refine⟨zAV "law" "law" (Dk Uj) (De Uj) (Ar Uj) .none kV50 dc50 pm50 an50 cd50 ct50,fun s v=>.of_eq rfl,fun base _ _=>?_⟩;have Cis_whole:Cp l.prog w K mg base 1 "is_whole" ["thing"] (He K):=D_is_whole.cal fun f fd F=>C6 F T;have Cis_amount:Cp l.prog w K mg base 2 "is_amount" ["thing"] (EB K 999999999999):=D_is_amount.cal fun f fd F=>Xk F T Cis_whole;have Cchecked_amount:Cp l.prog w K mg base 3 "checked_amount" ["thing"] A2:=D_checked_amount.cal fun f fd F=>Nt F T Cis_amount;have BClause___init__:DQ l.prog w K mg base 2 "Clause" "__init__" ["self", "by"] (CG Ad Au Ak Ah):=⟨_,_,_,Mq F_Clause___init__ T L,B_Clause___init__,Z_Clause___init__,L.mg_Clause⟩
 have KOwn:Es l.prog w K mg base 4 "Own" Au ["self", "by", "cents"] (FD Ad Au Ak Ah):=⟨_,_,H_Own_make,Qj F_Own___init__ T L BClause___init__ Cchecked_amount,B_Own___init__,L.mg_Own⟩;have KLayer:Es l.prog w K mg base 4 "Layer" Ak ["self", "by", "first", "upto"] (DH Ad Au Ak Ah):=⟨_,_,H_Layer_make,Nv F_Layer___init__ T L BClause___init__ Cchecked_amount,B_Layer___init__,L.mg_Layer⟩;have KLimit:Es l.prog w K mg base 4 "Limit" Ah ["self", "by", "most"] (CP Ad Au Ak Ah):=⟨_,_,H_Limit_make,Ni F_Limit___init__ T L BClause___init__ Cchecked_amount,B_Limit___init__,L.mg_Limit⟩;have Ccent_at:Cp l.prog w K mg base 1 "cent_at" ["bound", "count", "cents"] Ys:=D_cent_at.cal fun f fd F=>M0 F T;have Mroom:Pb l.prog w K mg base 1 (Fam Ad Au Ak Ah) "room" ["self", "paid"] (Yk Ad Au Ak Ah):=⟨fun C hC=>by
  rcases hC with rfl | rfl | rfl | rfl
  ·exact⟨⟨_,_,Gs F_Clause_room T (fun c h n=>by obtain⟨y,rfl⟩:=U9 L h; rfl),B_Clause_room,H_Clause_room⟩,L.cl_Clause⟩
  ·exact⟨⟨_,_,Gs F_Clause_room T (fun c h n=>by obtain⟨y,d,rfl⟩:=W9 L h; rfl),B_Clause_room,H_Own_room⟩,L.cl_Own⟩
  ·exact⟨⟨_,_,Gs F_Clause_room T (fun c h n=>by obtain⟨y,a,b,rfl⟩:=S1 L h; rfl),B_Clause_room,H_Layer_room⟩,L.cl_Layer⟩
  ·exact⟨⟨_,_,Vc F_Limit_room T L,B_Limit_room,H_Limit_room⟩,L.cl_Limit⟩⟩
 have Mspan:Pb l.prog w K mg base 2 (Fam Ad Au Ak Ah) "span" ["self", "count", "cents"] (Ub Ad Au Ak Ah):=⟨fun C hC=>by
  rcases hC with rfl | rfl | rfl | rfl
  ·exact⟨⟨_,_,Kp F_Clause_span T (fun c h n k=>by obtain⟨y,rfl⟩:=U9 L h; exact⟨rfl,rfl⟩),B_Clause_span,H_Clause_span⟩,L.cl_Clause⟩
  ·exact⟨⟨_,_,F9 F_Own_span T L Ccent_at,B_Own_span,H_Own_span⟩,L.cl_Own⟩
  ·exact⟨⟨_,_,Uu F_Layer_span T L Ccent_at,B_Layer_span,H_Layer_span⟩,L.cl_Layer⟩
  ·exact⟨⟨_,_,Kp F_Clause_span T (fun c h n k=>by obtain⟨y,m,rfl⟩:=U1 L h; exact⟨rfl,rfl⟩),B_Clause_span,H_Limit_span⟩,L.cl_Limit⟩⟩
 have Care_weights:Cp l.prog w K mg base 2 "are_weights" ["thing"] DT:=D_are_weights.cal fun f fd F=>Sv F T Cis_whole;have Cmay_have:Cp l.prog w K mg base 1 "may_have" ["weight", "dealt", "total", "turn"] O7:=D_may_have.cal fun f fd F=>F7 F T;have Cdue_by:Cp l.prog w K mg base 1 "due_by" ["weight", "dealt", "total"] P9:=D_due_by.cal fun f fd F=>AB F T;have Cplace_of_turn:Cp l.prog w K mg base 2 "place_of_turn" ["weights", "dealt", "turn"] EZ:=D_place_of_turn.cal fun f fd F=>Ol F T Cmay_have Cdue_by;have Cturns:Cp l.prog w K mg base 3 "turns" ["weights"] ER:=D_turns.cal fun f fd F=>DS F T Care_weights Cplace_of_turn;have KDeal:Es l.prog w K mg base 4 "Deal" Bg ["self", "weights"] (DP Bg):=⟨_,_,H_Deal_make,On F_Deal___init__ T L Cturns,B_Deal___init__,L.mg_Deal⟩;have Chas_letters_alone:Cp l.prog w K mg base 1 "has_letters_alone" ["text"] DV:=D_has_letters_alone.cal fun f fd F=>Jw F T;have Cis_name:Cp l.prog w K mg base 2 "is_name" ["thing"] (Yr K):=D_is_name.cal fun f fd F=>O4 F T Chas_letters_alone;have Ccheck_houses:Cp l.prog w K mg base 3 "check_houses" ["houses"] CJ:=D_check_houses.cal fun f fd F=>Qm F T Cis_name;have KCover:Es l.prog w K mg base 6 "Cover" Aj ["self", "name", "condition", "clauses", "houses", "waits"] (P7 Aj):=⟨_,_,H_Cover_make,Mw F_Cover___init__ T L Cis_name Ccheck_houses KDeal,B_Cover___init__,L.mg_Cover⟩;have KBook:Es l.prog w K mg base 1 "Book" Bb ["self", "covers"] (M6 Aj Bb):=⟨_,_,H_Book_make,Pe F_Book___init__ T L,B_Book___init__,L.mg_Book⟩
 have KCounts:Es l.prog w K mg base 1 "Counts" Ap ["self"] (DY Ap):=⟨_,_,H_Counts_make,Mm F_Counts___init__ T L,B_Counts___init__,L.mg_Counts⟩;have Mhave:Hi l.prog w K mg base 1 Ap "have" ["self", "name", "k", "key"] (Pk Ap):=⟨⟨_,_,Ry F_Counts_have T L,B_Counts_have,H_Counts_have⟩,L.cl_Counts⟩;have Madd:Hi l.prog w K mg base 2 Ap "add" ["self", "name", "k", "key", "cents"] (FH Ap):=⟨⟨_,_,Um F_Counts_add T L Mhave,B_Counts_add,H_Counts_add⟩,L.cl_Counts⟩;have Cfirst_without:Cp l.prog w K mg base 1 "first_without" ["spans", "cent"] KJ:=D_first_without.cal fun f fd F=>Oj F T;have Cbounds_of:Cp l.prog w K mg base 1 "bounds_of" ["spans", "cents"] ES:=D_bounds_of.cal fun f fd F=>Zr F T;have Mspans:Hi l.prog w K mg base 3 Aj "spans" ["self", "counts", "cents"] (Ra Ad Au Ak Ah Aj):=⟨⟨_,_,Ui F_Cover_spans T L Mspan,B_Cover_spans,H_Cover_spans⟩,L.cl_Cover⟩;have Mwindow:Hi l.prog w K mg base 4 Aj "window" ["self", "counts", "cents"] (EH Ad Au Ak Ah Aj):=⟨⟨_,_,Qh F_Cover_window T L Mspans,B_Cover_window,H_Cover_window⟩,L.cl_Cover⟩;have Mparts:Hi l.prog w K mg base 4 Aj "parts" ["self", "counts", "cents"] (DG Ad Au Ak Ah Aj):=⟨⟨_,_,Tw F_Cover_parts T L Mspans Cbounds_of Cfirst_without,B_Cover_parts,H_Cover_parts⟩,L.cl_Cover⟩;have Mrest:Hi l.prog w K mg base 2 Aj "rest" ["self", "counts"] (Yq Ad Au Ak Ah Aj):=⟨⟨_,_,Ur F_Cover_rest T L Mroom,B_Cover_rest,H_Cover_rest⟩,L.cl_Cover⟩;have Mholds:∀ m,Pb l.prog w K mg base m (A8.Fam (A8.mk Ab Ag Af Am At Ba Az As)) "holds" ["self", "loss"] (Dx (A8.mk Ab Ag Af Am At Ba Az As) m):=by
  intro m
  induction m with
  | zero=>
   refine⟨fun C hC=>?_⟩;rcases hC with rfl | rfl | rfl | rfl | rfl | rfl | rfl | rfl
   ·exact⟨⟨_,_,FN fun _ _ _ _=>Fn,B_Condition_holds,H_Condition_holds⟩,L.cl_Condition⟩
   ·exact⟨⟨_,_,FN fun _ _ _ _=>Fn,B_CauseIs_holds,H_CauseIs_holds⟩,L.cl_CauseIs⟩
   ·exact⟨⟨_,_,FN fun _ _ _ _=>Fn,B_ThingIs_holds,H_ThingIs_holds⟩,L.cl_ThingIs⟩
   ·exact⟨⟨_,_,FN fun _ _ _ _=>Fn,B_DaysIn_holds,H_DaysIn_holds⟩,L.cl_DaysIn⟩
   ·exact⟨⟨_,_,FN fun _ _ _ _=>Fn,B_Over_holds,H_Over_holds⟩,L.cl_Over⟩
   ·exact⟨⟨_,_,FN fun _ _ _ _=>Fn,B_Not_holds,H_Not_holds⟩,L.cl_Not⟩
   ·exact⟨⟨_,_,FN fun _ _ _ _=>Fn,B_All_holds,H_All_holds⟩,L.cl_All⟩
   ·exact⟨⟨_,_,FN fun _ _ _ _=>Fn,B_Some_holds,H_Some_holds⟩,L.cl_Some⟩
  | succ m ih=>
   refine⟨fun C hC=>?_⟩;have m1:1<=m+1:=Nat.succ_le_succ (zAA _);rcases hC with rfl | rfl | rfl | rfl | rfl | rfl | rfl | rfl
   ·exact⟨⟨_,_,(Mh F_Condition_holds L).mono m1,B_Condition_holds,H_Condition_holds⟩,L.cl_Condition⟩
   ·exact⟨⟨_,_,(Ov F_CauseIs_holds T L).mono m1,B_CauseIs_holds,H_CauseIs_holds⟩,L.cl_CauseIs⟩
   ·exact⟨⟨_,_,(Ps F_ThingIs_holds T L).mono m1,B_ThingIs_holds,H_ThingIs_holds⟩,L.cl_ThingIs⟩
   ·exact⟨⟨_,_,(Qz F_DaysIn_holds T L).mono m1,B_DaysIn_holds,H_DaysIn_holds⟩,L.cl_DaysIn⟩
   ·exact⟨⟨_,_,(Uw F_Over_holds T L).mono m1,B_Over_holds,H_Over_holds⟩,L.cl_Over⟩
   ·exact⟨⟨_,_,Ym F_Not_holds L ih,B_Not_holds,H_Not_holds⟩,L.cl_Not⟩
   ·exact⟨⟨_,_,Xv F_All_holds L ih,B_All_holds,H_All_holds⟩,L.cl_All⟩
   ·exact⟨⟨_,_,Vr F_Some_holds L ih,B_Some_holds,H_Some_holds⟩,L.cl_Some⟩
 have KCauseIs:Es l.prog w K mg base 1 "CauseIs" Ag ["self", "name"] (Jl Ag "name"):=⟨_,_,H_CauseIs_make,Ll F_CauseIs___init__ L,B_CauseIs___init__,L.mg_CauseIs⟩;have KThingIs:Es l.prog w K mg base 1 "ThingIs" Af ["self", "name"] (Jl Af "name"):=⟨_,_,H_ThingIs_make,Li F_ThingIs___init__ L,B_ThingIs___init__,L.mg_ThingIs⟩;have KDaysIn:Es l.prog w K mg base 1 "DaysIn" Am ["self", "first", "last"] (DM Am):=⟨_,_,H_DaysIn_make,Mu F_DaysIn___init__ L,B_DaysIn___init__,L.mg_DaysIn⟩;have KOver:Es l.prog w K mg base 1 "Over" At ["self", "cents"] (Jl At "cents"):=⟨_,_,H_Over_make,Pl F_Over___init__ L,B_Over___init__,L.mg_Over⟩;have KNot:Es l.prog w K mg base 1 "Not" Ba ["self", "part"] (Jl Ba "part"):=⟨_,_,H_Not_make,Qw F_Not___init__ L,B_Not___init__,L.mg_Not⟩;have KAll:Es l.prog w K mg base 1 "All" Az ["self", "several"] (Wp Az):=⟨_,_,H_All_make,Qq F_All___init__ T L,B_All___init__,L.mg_All⟩;have KSome:Es l.prog w K mg base 1 "Some" As ["self", "several"] (Wp As):=⟨_,_,H_Some_make,Pu F_Some___init__ T L,B_Some___init__,L.mg_Some⟩;have Cyear_of:Cp l.prog w K mg base 1 "year_of" ["day"] Q4:=D_year_of.cal fun f fd F=>Q1 F T;have Mkey:Pb l.prog w K mg base 2 (Fam Ad Au Ak Ah) "key" ["self", "loss"] (W0 Ad Au Ak Ah):=⟨fun C hC=>by
  rcases hC with rfl | rfl | rfl | rfl
  ·exact⟨⟨_,_,Fm F_Clause_key T L Cyear_of,B_Clause_key,H_Clause_key⟩,L.cl_Clause⟩
  ·exact⟨⟨_,_,Fm F_Clause_key T L Cyear_of,B_Clause_key,H_Own_key⟩,L.cl_Own⟩
  ·exact⟨⟨_,_,Fm F_Clause_key T L Cyear_of,B_Clause_key,H_Layer_key⟩,L.cl_Layer⟩
  ·exact⟨⟨_,_,Fm F_Clause_key T L Cyear_of,B_Clause_key,H_Limit_key⟩,L.cl_Limit⟩⟩
 have Masks:Hi l.prog w K mg base 5 Aj "asks" ["self", "loss"] (M7 (A8.mk Ab Ag Af Am At Ba Az As) Ad Au Ak Ah Aj 4):=⟨⟨_,_,Vs F_Cover_asks T L (Mholds 4),B_Cover_asks,H_Cover_asks⟩,L.cl_Cover⟩;have Cnumbers_of:Cp l.prog w K mg base 3 "numbers_of" ["cover", "counts", "loss"] (N4 (A8.mk Ab Ag Af Am At Ba Az As) Ad Au Ak Ah Aj Ap):=D_numbers_of.cal fun f fd F=>Vd F T L Mkey Mhave;have Casked_of:Cp l.prog w K mg base 6 "asked_of" ["book", "loss"] (Rg (A8.mk Ab Ag Af Am At Ba Az As) Ad Au Ak Ah Aj Bb 4):=D_asked_of.cal fun f fd F=>A4 F T L Masks;have Ccut_within:Cp l.prog w K mg base 1 "cut_within" ["runs", "lo", "hi"] U3:=D_cut_within.cal fun f fd F=>Vo F T;have Clowest_of:Cp l.prog w K mg base 1 "lowest_of" ["runs", "n"] Sq:=D_lowest_of.cal fun f fd F=>Xi F T;have Cleft_of_run:Cp l.prog w K mg base 1 "left_of_run" ["run", "others"] O5:=D_left_of_run.cal fun f fd F=>Sh F T;have Ccut_out:Cp l.prog w K mg base 2 "cut_out" ["runs", "others"] CH:=D_cut_out.cal fun f fd F=>J1 F T Cleft_of_run;have Cpaid_runs:Cp l.prog w K mg base 5 "paid_runs" ["cover", "numbers", "cents", "unpaid"] (P0 (A8.mk Ab Ag Af Am At Ba Az As) Ad Au Ak Ah Aj):=D_paid_runs.cal fun f fd F=>Zd F T Mwindow Mrest Ccut_within Clowest_of;have Cborne_strips:Cp l.prog w K mg base 5 "borne_strips" ["cover", "numbers", "cents", "unpaid"] (Ze (A8.mk Ab Ag Af Am At Ba Az As) Ad Au Ak Ah Aj):=D_borne_strips.cal fun f fd F=>Qs F T L Mparts Mrest Ccut_within;have Cstrips_of:Cp l.prog w K mg base 7 "strips_of" ["book", "counts", "loss"] (Sy (A8.mk Ab Ag Af Am At Ba Az As) Ad Au Ak Ah Aj Bb Ap):=D_strips_of.cal fun f fd F=>Xf F T L Casked_of Cnumbers_of Cpaid_runs Cborne_strips Ccut_out
 have Cpaid_by:Cp l.prog w K mg base 1 "paid_by" ["name", "strips"] LE:=D_paid_by.cal fun f fd F=>O1 F T;have Ccount_for:Cp l.prog w K mg base 3 "count_for" ["cover", "counts", "loss", "paid"] (N2 (A8.mk Ab Ag Af Am At Ba Az As) Ad Au Ak Ah Aj Ap):=D_count_for.cal fun f fd F=>Zh F T L Mkey Madd;have Csettle:Cp l.prog w K mg base 8 "settle" ["book", "counts", "loss"] (Sz (A8.mk Ab Ag Af Am At Ba Az As) Ad Au Ak Ah Aj Bb Ap):=D_settle.cal fun f fd F=>AS F T L Casked_of Cstrips_of Cpaid_by Ccount_for;have C_law_cell:Cp l.prog w K mg base 1 "_law_cell" ["_law_script", "_law_k"] (Ts K):=D__law_cell.cal fun f fd F=>Xn F T;have C_law_whole:Cp l.prog w K mg base 1 "_law_whole" ["_law_found"] (He K):=D__law_whole.cal fun f fd F=>Vh F T;have C_law_spread:Cp l.prog w K mg base 1 "_law_spread" ["_law_cell_here"] Jr:=D__law_spread.cal fun f fd F=>Tg F T;have C_law_names:Cp l.prog w K mg base 1 "_law_names" ["_law_cell_here", "_law_many"] Xy:=D__law_names.cal fun f fd F=>Va F T;have C_law_amount:Cp l.prog w K mg base 1 "_law_amount" ["_law_digit", "_law_unit_here"] V5:=D__law_amount.cal fun f fd F=>Sa F T;have C_law_unit:Cp l.prog w K mg base 2 "_law_unit" ["_law_script"] (L3 K):=D__law_unit.cal fun f fd F=>Xh F T C_law_cell C_law_spread;have C_law_key:Cp l.prog w K mg base 1 "_law_key" ["_law_by", "_law_loss_here"] Q5:=D__law_key.cal fun f fd F=>F0 F T;have C_law_drawn_clause:Cp l.prog w K mg base 2 "_law_drawn_clause" ["_law_cell_here", "_law_unit_here"] LB:=D__law_drawn_clause.cal fun f fd F=>Kj F T C_law_amount
 have C_law_world:Cp l.prog w K mg base 2 "_law_world" ["_law_script", "_law_most"] (Zm K):=D__law_world.cal fun f fd F=>Uk F T C_law_cell C_law_spread C_law_names;have C_law_holds:∀ m,Cp l.prog w K mg base m "_law_holds" ["_law_cond_here", "_law_loss_here"] (FW m):=by
  intro m
  induction m with
  | zero=>
   refine D__law_holds.cal fun f fd F=>FN fun _ _ _ _ z=>?_;obtain⟨_,_,_,_,_,_,z,_⟩:=z;exact zBq _ z
  | succ m ih=>exact D__law_holds.cal fun f fd F=>Uo F ih
 have C_law_cond:Cp l.prog w K mg base 2 "_law_cond" ["_law_cell_here", "_law_things", "_law_causes", "_law_unit_here"] P4:=D__law_cond.cal fun f fd F=>Xp F T C_law_amount;have C_law_loss:Cp l.prog w K mg base 1 "_law_loss" ["_law_cell_here", "_law_world_here", "_law_unit_here"] L8:=D__law_loss.cal fun f fd F=>Xm F T;have C_law_losses:Cp l.prog w K mg base 2 "_law_losses" ["_law_script", "_law_many", "_law_world_here", "_law_unit_here"] (Tt K):=D__law_losses.cal fun f fd F=>Tz F T C_law_loss;have C_law_paid:Cp l.prog w K mg base 1 "_law_paid" ["_law_strips", "_law_name", "_law_i"] Xt:=D__law_paid.cal fun f fd F=>Yl F T;have C_law_clause:Cp l.prog w K mg base 6 "_law_clause" ["_law_clause_here"] (BP Ad Au Ak Ah):=D__law_clause.cal fun f fd F=>Tc F T KOwn KLayer KLimit;have C_law_covers:Cp l.prog w K mg base 3 "_law_covers" ["_law_script", "_law_names_here", "_law_things", "_law_causes", "_law_unit_here"] (P8 K):=D__law_covers.cal fun f fd F=>Ud F T C_law_cell C_law_spread C_law_drawn_clause C_law_cond;have C_law_asked:Cp l.prog w K mg base 5 "_law_asked" ["_law_covers_here", "_law_loss_here"] N3:=D__law_asked.cal fun f fd F=>Uy F T (C_law_holds 4);have C_law_form:Cp l.prog w K mg base 2 "_law_form" ["_law_strips", "_law_cents"] J2:=D__law_form.cal fun f fd F=>Yf F T C_law_whole;have C_law_counted:Cp l.prog w K mg base 6 "_law_counted" ["_law_covers_here", "_law_had_of", "_law_loss_here", "_law_strips"] Pp:=D__law_counted.cal fun f fd F=>Qn F T C_law_asked C_law_paid C_law_key
 have C_law_condition:∀ m,Cp l.prog w K mg base (m+2) "_law_condition" ["_law_cond_here"] (R5 (A8.mk Ab Ag Af Am At Ba Az As) m):=by
  intro m
  induction m with
  | zero=>
   refine D__law_condition.cal fun f fd F=>FN fun _ _ _ _ z=>?_;obtain⟨_,_,_,_,z,_⟩:=z;exact zBq _ z
  | succ m ih=>exact D__law_condition.cal fun f fd F=>Mx F L ih NCondition KCauseIs KThingIs KDaysIn KOver KNot KAll KSome
 have C_law_book:Cp l.prog w K mg base 8 "_law_book" ["_law_covers_here"] (Yg (A8.mk Ab Ag Af Am At Ba Az As) Ad Au Ak Ah Aj Bb):=D__law_book.cal fun f fd F=>Zo F T C_law_clause (C_law_condition 3) KCover KBook;have C_law_keys:Cp l.prog w K mg base 1 "_law_keys" ["_law_by", "_law_losses_here", "_law_world_here"] O0:=D__law_keys.cal fun f fd F=>Zc F T;have C_law_kept:Cp l.prog w K mg base 2 "_law_kept" ["_law_covers_here", "_law_counts", "_law_had_of", "_law_world_here", "_law_losses_here"] (Q2 Ap):=D__law_kept.cal fun f fd F=>Zw F T C_law_keys C_law_whole Mhave;exact JT F50 T L C_law_unit C_law_world C_law_covers C_law_book C_law_losses KCounts Csettle C_law_form C_law_counted C_law_kept Mhave
theorem walk {l:PySem.W.OpenLaw} {q:Program} {loose:List Str} {XP:(Str->Option Value)->Heap->Prop} {YP:World->Heap->Prop} {d:DefRec} {K:Params->zAa} (hn:l.most=some 63) (hdf:d.params.defaults=[])
  (hY:∀ (w:World) (h:Heap),YP w h->(K w.params).In h)
  (F:∀ (w:World) (mg:Str->Option Value) (fa:Addr) (h:Heap),(K w.params).In h->h.Ns zCz mg->mg d.name=some (.ref fa) ->
   ∃ fd:zCy,(∀ (s:Shared) (u:Value),BindsTo s fd ⟨[u],[]⟩ [("_law_script",u)])/\∀ base:Heap,(K w.params).In base->base.Ns zCz mg->FnOk l.prog w (K w.params) mg base Da 9 fa fd ["_law_script"] (X7 (K w.params))) :
  PySem.W.WalkO q loose XP YP l.row.toRowW d [] (fun f vs=>PySem.call f vs):=
 L2.walk_of (n:=63) (k:=9) (x := "_law_script") (CX:=fun _=>Da) (sp:=fun w=>X7 (K w.params)) hn (by decide) hdf ⟨rfl,by decide,by decide⟩ hY F (fun _ _ a ns hl _ hS=>⟨a,ns,rfl,hS,hl,fun _=>rfl⟩) fun _ _ _ _ _ z=>z
end CRL
open PySem PySem.W PyProof.Rows
namespace PySem.W.Fast
def tw14884324109294542403:=0
def tw11216248582610790065:=0
def tw5264735966741064635:=0
def tw195402140803840117:=0
def tw6939501278226316008:=0
def tw15858383725290722334:=0
def tw8619190484944357232:=0
def tw9364625374079941821:=0
def tw1885560430256915784:=0
def tw5829926458746649955:=0
def tw3918896302227281962:=0
def tw16655812915527044164:=0
def tw3961385048269217411:=0
def tw18009956699797219020:=0
def tw16991392351366631789:=0
def tw18342459047783892901:=0
def tw10643506127596432574:=0
def tw16820539713157589649:=0
def tw13045190774273042235:=0
def tw3388968763368116848:=0
def tw17081743410796806065:=0
def tw15149002514795666546:=0
def tw17903986572993932388:=0
def tw16421853285292249391:=0
def tw12250397329215700260:=0
def tw15435680228843819199:=0
def tw9772096903296762872:=0
def tw7106250170435442115:=0
def tw5793479129026507289:=0
def tw5868731637789320459:=0
def tw13332715814484659837:=0
def tw2447930119665178820:=0
def tw16423556003387319610:=0
def tw2614028033178065292:=0
def tw359835488571290721:=0
def tw5355906645025469736:=0
def tw9034753098768766483:=0
def tw4700373368508002173:=0
def tw8602988145221131513:=0
def tw16274714368747484436:=0
def tw12783342321901268887:=0
def tw3193654748938088963:=0
def tw13171580298870440775:=0
def tw11118015620340367491:=0
def tw15745337925630044531:=0
def tw16104455273562567713:=0
def tw16162623543368765629:=0
def tw14295196865729492241:=0
def tw12915537691379412312:=0
def tw2867548944561391806:=0
def tw5964850615210049964:=0
def tw12915760608315995833:=0
def tw17941413313682426217:=0
def tw14223271895484931102:=0
def tw12809854019093432909:=0
def tw12366923637924847154:=0
def tw104784171943150205:=0
def tw809267818353787505:=0
def tw14172502468267828023:=0
def tw17571315921233681894:=0
def tw5927285218616323706:=0
def tw17576626689468888257:=0
def tw16079325514399357337:=0
def tw9214804354497000434:=0
def tw1134500588387220162:=0
def tw7733185774924568075:=0
def tw9460996731223684953:=0
def tw2201953877136898082:=0
def tw10912656196929397020:=0
def tw14896765064475214988:=0
def tw12411343926632949988:=0
def tw7225920081262735744:=0
def tw2466902639111857814:=0
def tw12703950781769342512:=0
def tw7116671625189679087:=0
def tw5733178206308328751:=0
def tw17667639667374468347:=0
def tw342428010597322627:=0
def tw6075732263615282645:=0
def tw5706609210143719193:=0
def tw17358890031477168368:=0
def tw7338145103653559680:=0
def tw2646821710917717154:=0
def tw13447098485226573891:=0
def tw16488257542860295142:=0
def tw11402297964009366968:=0
def tw3417764794671577584:=0
def tw16005759967691985984:=0
def tw17494558808661397133:=0
def tw13198156577850244740:=0
def tw12146467928359283167:=0
def tw6765076190772011813:=0
def tw5184659354656403811:=0
def tw17459003581994435321:=0
def tw15149240848250798171:=0
def tw6405193712140133484:=0
def tw14086951834414443814:=0
def tw8510972174764252817:=0
def tw819805513686113549:=0
def tw1200320709065966691:=0
def tw15057890873959109800:=0
def tw7921422785385101898:=0
def tw513298701852957482:=0
def tw1972852994839418391:=0
def tw3978006925174956270:=0
def tw14898104427980786426:=0
def tw4200008524622478028:=0
def tw411069256053233222:=0
def tw17130377766020631115:=0
def tw9862407203278482930:=0
def tw4268387639901944090:=0
def tw17932717702039247650:=0
def tw4249887436365226667:=0
def tw18112747919242374571:=0
def tw13383915279408602618:=0
def tw10365200636283076511:=0
def tw41349819152584292:=0
def tw5168548775357401813:=0
def tw1324257457463890951:=0
def tw11442365984762854176:=0
def tw4217265348783097018:=0
def tw13440926013023321642:=0
def tw11368045869799446857:=0
def tw15870311356580548541:=0
def tw5466425417419019271:=0
def tw2753605875866756469:=0
def tw5926185862036421202:=0
def tw17358845336687462732:=0
def tw14571127332592693958:=0
def tw3561266096547797486:=0
def tw15512459792799609905:=0
def tw13165348224237258124:=0
def tw1989507257413218664:=0
def tw12511569780257753919:=0
def tw9283514993859224284:=0
def tw9036078666924487454:=0
def tw11553956998200826427:=0
def tw9907413286117457880:=0
def tw9873456961520930277:=0
def tw14619373760288054897:=0
def tw3539220729579072597:=0
def tw15491160217956223865:=0
def tw2612982780570661049:=0
def tw13374030514719848732:=0
def tw2448986689755806846:=0
def tw1724522242923637610:=0
def tw3687887761374490275:=0
def tw1788837737511044377:=0
def tw11800489232926965551:=0
def tw11684589657921279225:=0
def tw17372140945328386225:=0
def tw13813535041154121088:=0
def tw9740554985988053355:=0
def tw9354791132000960710:=0
def tw9908659561559742259:=0
def tw8384776930908197917:=0
def tw9038913908849189964:=0
def tw13670470667546130020:=0
def tw6852008439447038988:=0
def tw14444312715298889007:=0
def tw5467785091846130554:=0
def tw3378364458368058492:=0
def tw9300063251979326403:=0
def tw17531427232028961225:=0
def tw15231608865410262653:=0
def tw1795555753214256196:=0
def tw18009339861564668221:=0
def tw15909668700985999003:=0
def tw6907079296564484607:=0
def tw11548337408002374525:=0
def tw7920017180241054319:=0
def tw4873162249750109539:=0
def tw4819054548755087003:=0
def tw16492021129689917512:=0
def tw11332131077400814596:=0
def tw6177687837946523963:=0
def tw12455287191110088045:=0
def tw4303299351793240022:=0
def tw3098376671057208846:=0
def tw11384901330385826564:=0
def tw10806490113807869614:=0
def tw4390891048265086485:=0
def tw12735802076451219932:=0
def tw18095104794864487654:=0
def tw16272504342716509986:=0
def tw18169636105382418564:=0
def tw1920244925704626448:=0
def tw14437855464185297377:=0
def tw17931641251751029803:=0
def tw6883245400801362740:=0
def tw15046544705506528121:=0
def tw10345060364237540236:=0
def tw561367330202937123:=0
def tw16463565537113896210:=0
def tw11940579376186625053:=0
def tw17523450491651657204:=0
def tw14082541447805293628:=0
def tw4331245136424894591:=0
def tw9241823856818886864:=0
def tw5008536641524285276:=0
def tw2938703244362094073:=0
def tw15582850134226985034:=0
def tw14982055720203100000:=0
def tw16168629841241889800:=0
def tw8534098922107653053:=0
def tw14764669929259992432:=0
def tw6603316265151016296:=0
def tw14417758030697504378:=0
def tw7312523095972970718:=0
def tw7470753087019015935:=0
def tw1882201020370167517:=0
def tw6342501382621804177:=0
def tw10008920587999794255:=0
def tw920483754934936209:=0
def tw5047165567773475485:=0
def tw16304114501246290085:=0
def tw14067607533275587970:=0
def tw7464633873035389316:=0
def tw7115235559365397788:=0
def tw3008211761062395335:=0
def tw2924066886059299851:=0
def tw18400719601007837338:=0
def tw8642552320406267886:=0
def tw2746065942618296152:=0
def tw1045395635102527818:=0
def tw8414316668447121880:=0
def tw6572382867440875788:=0
def tw17880587491724320636:=0
def tw12528401646470386526:=0
def tw6981322009787537496:=0
def tw16014767366397088637:=0
def tw12891446888727058415:=0
def tw10249385082785944358:=0
def tw8465803953472072750:=0
def tw15695648989183455571:=0
def tw10429617633762447712:=0
def tw9197388906757586574:=0
def tw3265838379834970618:=0
def tw6515003162702303027:=0
def tw17303855793521466458:=0
def tw17032643496337318756:=0
def tw2228875298262578050:=0
def tw13287933529917562951:=0
def tw1410466146418813973:=0
def tw6740329660917609977:=0
def tw6618713410974789858:=0
def tw14231228098042463527:=0
def tw7982665829887854677:=0
def tw12067140196227447267:=0
def tw11894418856605384979:=0
def tw12757760010089840538:=0
def tw9146282407360815716:=0
def tw12512562452974467105:=0
def tw9568709003819913334:=0
def tw12445055415742108630:=0
def tw1487910485957278002:=0
def tw5012766472482804179:=0
def tw2839376242287738798:=0
def tw12350838113014888448:=0
def tw16670857497941586164:=0
def tw10441318739368817080:=0
def tw5145700816566087953:=0
def tw16255041980210186029:=0
def tw6233726864901775884:=0
def tw8268081783641726550:=0
def tw10445635589330815046:=0
def tw6580654919895189015:=0
def tw4081696463370262750:=0
def tw2722743042200746074:=0
def tw593286965738265570:=0
def tw11312878913655568504:=0
def tw18363762794874493237:=0
def tw7999556187299583178:=0
def tw17085007322119164930:=0
def tw1968602203155438526:=0
def tw490913303072289428:=0
def tw1277878290559701731:=0
def tw8849728149007793827:=0
def tw10380395832633460564:=0
def tw10505051781716697738:=0
def tw16180663902435919025:=0
def tw9555752096076150719:=0
def tw5834373906357107726:=0
def tw13316894222692694099:=0
def tw13794997370613691311:=0
def tw4600479087375305897:=0
def tw3787528747355494666:=0
def tw17351678291738012278:=0
def tw11307369424534431995:=0
def tw4294544741845099709:=0
def tw17698491398933931171:=0
def tw14957760985387704691:=0
def tw13795011418660017739:=0
def tw163820777905555921:=0
def tw4460128004645686934:=0
def tw11006203891917176504:=0
def tw8675958108488625852:=0
def tw4252420169673967050:=0
def tw590901949896670639:=0
def tw16937335780626664290:=0
def tw12110626278229297922:=0
def tw8218699183954674492:=0
def tw3367609016007316706:=0
def tw2668588241895510667:=0
def tw18423921663080639798:=0
def tw9253605006070118471:=0
def tw17339306697793489454:=0
def tw9152626660870928961:=0
def tw14889669521967692219:=0
def tw16857586833391013674:=0
def tw12795596240823173952:=0
def tw3590924782739505052:=0
def tw13178205966824524438:=0
def tw7610382952784633660:=0
def tw17225329056410575210:=0
def tw4462888209745275:=0
def tw9044361787486768872:=0
def tw18191116672182463191:=0
def tw10522087791045925608:=0
def tw10056765990791853862:=0
def tw10864553717246616297:=0
def tw10720065551009925944:=0
def tw6956446488257591190:=0
def tw6641378691406277858:=0
def tw15447013646624345549:=0
def tw16212340059558887813:=0
def tw4732988176368991523:=0
def tw10778663698964592605:=0
def tw796254167416519542:=0
def tw16917261526520376037:=0
def tw13645144755192245387:=0
def tw8349316159474685401:=0
def tw2752363373605340144:=0
def tw17918733467473509040:=0
def tw15595942048340181617:=0
def tw14819312303771700:=0
def tw10655754230920503925:=0
def tw14221795204355889114:=0
def tw6144334023406448775:=0
def tw1677491808433713698:=0
def tw2853988227983300368:=0
def tw11850948123899516344:=0
def tw828103325118989400:=0
def tw6185303588274628232:=0
def tw17102458546610492064:=0
def tw16654371072352678703:=0
def tw16187313953343500265:=0
def tw10948691804023067475:=0
def tw12814627863482827452:=0
def tw6636486825970797524:=0
def tw16122173065044295965:=0
def tw10119050104713516321:=0
def tw17773095848418922503:=0
def tw10108704470863835850:=0
def tw11272353576913842506:=0
def tw3204165299525808196:=0
def tw5324541770952973535:=0
def tw2750687008841998621:=0
def tw15983113133830768202:=0
def tw2825936630118029914:=0
def tw7411581638466539335:=0
def tw469246437174591558:=0
def tw3651789863999034252:=0
def tw6264556407016503091:=0
def tw1181401168226480835:=0
def tw2161062918457147981:=0
def tw13028609677730292117:=0
def tw10578368892414761244:=0
def tw3544630933044389349:=0
def tw7059569110293425601:=0
def tw627587831657545115:=0
def tw11638401962913912845:=0
def tw17487844274204377467:=0
def tw15472521908471298822:=0
def tw9760895644028401165:=0
def tw4027369749546073444:=0
def tw13394248600901704398:=0
def tw12846641289584818361:=0
def tw5669335530992837401:=0
def tw9886258822660475093:=0
def tw4468748108215480673:=0
def tw2436295434785263153:=0
def tw11395639823260098640:=0
def tw11217224024253956904:=0
def tw13557314858385943461:=0
def tw1823946115372175190:=0
def tw16512115190512256620:=0
def tw13491754278698737645:=0
def tw13167223486837012633:=0
def tw12235156018238001166:=0
def tw11078830644711701270:=0
def tw4901826183044800411:=0
def tw12105062556884975036:=0
def tw10403933680514802749:=0
def tw14641682202960094746:=0
def tw13775314846950597303:=0
def tw8737842955131105619:=0
def tw4867042157301961756:=0
def tw4855507052910334807:=0
def tw14762347000819431066:=0
def tw2645806613509837715:=0
def tw2272296408567495185:=0
def tw14478515613626994176:=0
def tw10033753531944325618:=0
def tw2751909092384052591:=0
def tw2258253341798034702:=0
def tw10841298372644539691:=0
def tw10766788101595724373:=0
def tw5659644271182129154:=0
def tw7123098583554502524:=0
def tw9826865187529968127:=0
def tw6991846075675886227:=0
def tw4926960629480316891:=0
def tw3542203420334707508:=0
def tw15042820413692775467:=0
def tw17100840923035460092:=0
def tw6205243881271983609:=0
def tw2791835228582139961:=0
def tw2234604051009959286:=0
def tw17824861583561361588:=0
def tw2528874395787079581:=0
def tw1868908583448721770:=0
def tw16428676058212945509:=0
def tw15882698142953867099:=0
def tw12256617901953148303:=0
def tw6848371710823174167:=0
def tw1028343046439082873:=0
def tw4853063773429316500:=0
def tw2862885731095286858:=0
def tw16924061166025290888:=0
def tw14084280493419998553:=0
def tw18200117716148683848:=0
def tw16709660977105000916:=0
def tw10098228122156988251:=0
def tw4059500580527717802:=0
def tw8099629026664540552:=0
def tw2258949461554943959:=0
def tw1869795190391735928:=0
def tw7744301278127062909:=0
def tw2829277620931197050:=0
def tw18329113802854219112:=0
def tw17293856202430854240:=0
def tw9390472124785689343:=0
def tw8091937317318041047:=0
def tw6634981727472802024:=0
def tw2176274611215692982:=0
def tw16601143311187490750:=0
def tw2123163115989514811:=0
def tw16657240594337705266:=0
def tw9619487500788446805:=0
def tw7576314718784628664:=0
def tw17168737818567719318:=0
def tw13165146279374583095:=0
def tw9098530259117720757:=0
def tw6336046936424850443:=0
def tw3936327138133539115:=0
def tw9761854031376230966:=0
def tw14786820187442360597:=0
def tw12074375368823553535:=0
def tw8462669044052174115:=0
def tw7996781036776188198:=0
def tw7583741501325610818:=0
def tw6280917834430444807:=0
def tw5799739081661578960:=0
def tw5797517239991727613:=0
def tw471483666472888850:=0
def tw4691328932720804829:=0
def tw4192365483928078789:=0
def tw4135561976427396779:=0
def tw3793876428998519525:=0
def tw3729549788534158906:=0
def tw2848899387085203683:=0
def tw2747450608214746044:=0
def tw2573222247451614638:=0
def tw1922535187539708944:=0
def tw18053037542401497750:=0
def tw17694041776863908605:=0
def tw17400355213835257455:=0
def tw17376354083289695405:=0
def tw16883778119562343564:=0
def tw155391213806005520:=0
def tw15360658346235186651:=0
def tw15070230210348641402:=0
def tw15002424943270261644:=0
def tw14502749035615805017:=0
def tw13750629780049730223:=0
def tw12050637495010286130:=0
def tw11675419593709277437:=0
def tw11581792290463137833:=0
def tw10568529061999054406:=0
end PySem.W.Fast
set_option tactic.hygienic true in
set_option maxRecDepth 100000 in
set_option maxHeartbeats 0 in
theorem PySem.Challenge.cw_coverroll_k48_what_is_counted_holds : PySem.Challenge.rw_coverroll_k48_what_is_counted.Holds := by
 w_on; o_law; k_head; (case hw=>w_witness2)
 k_fill
 refine CRL.walk (l:=PySem.Challenge.rw_coverroll_k48_what_is_counted) rfl rfl (fun w h Y=>PySem.W.kIn_of Y) ?F
 case F=>
  intro w mg fa h KX G hmg
  refine' CRL.all_mk KX G hmg ?d0 ?d1 ?d2 ?d3 ?d4 ?d5 ?d6 ?d7 ?d8 ?d9 ?d10 ?d11 ?d12 ?d13 ?d14 ?d15 ?d16 ?d17 ?d18 ?d19 ?d20 ?d21 ?d22 ?d23 ?d24 ?d25 ?d26 ?d27 ?d28 ?d29 ?d30 ?d31 ?d32 ?d33 ?d34 ?d35 ?d36 ?d37 ?d38 ?d39 ?d40 ?d41 ?d42 ?d43 ?d44 ?d45 ?d46 ?d47 ?d48 ?d49 ?d50 ?q_Condition ?q_CauseIs ?na_CauseIs_name ?q_ThingIs ?na_ThingIs_name ?q_DaysIn ?na_DaysIn_first ?na_DaysIn_last ?q_Over ?na_Over_cents ?q_Not ?na_Not_part ?q_All ?na_All_several ?q_Some ?na_Some_several ?q_Clause ?na_Clause_by ?ha_Clause ?hm_Clause ?gs ?tk ?q_Own ?na_Own_cents ?na_Own_by ?ha_Own ?hm_Own ?q_Layer ?na_Layer_first ?na_Layer_upto ?na_Layer_by ?ha_Layer ?hm_Layer ?q_Limit ?na_Limit_most ?na_Limit_by ?ha_Limit ?hm_Limit ?q_Deal ?na_Deal_wheel ?na_Deal_weights ?q_Cover ?na_Cover_name ?na_Cover_condition ?na_Cover_clauses ?na_Cover_houses ?na_Cover_deal ?na_Cover_waits ?q_Book ?na_Book_covers ?na_Book_asking ?q_Counts ?na_Counts_kept ?kt_Clause_Limit ?kt_Own_Limit ?kt_Layer_Limit ?kt_Limit_Limit ?nd_C ?a_Condition_holds ?iCondition_holds ?a_CauseIs___init__ ?iCauseIs___init__ ?a_CauseIs_holds ?iCauseIs_holds ?a_ThingIs___init__ ?iThingIs___init__ ?a_ThingIs_holds ?iThingIs_holds ?a_DaysIn___init__ ?iDaysIn___init__ ?a_DaysIn_holds ?iDaysIn_holds ?a_Over___init__ ?iOver___init__ ?a_Over_holds ?iOver_holds ?a_Not___init__ ?iNot___init__ ?a_Not_holds ?iNot_holds ?a_All___init__ ?iAll___init__ ?a_All_holds ?iAll_holds ?a_Some___init__ ?iSome___init__ ?a_Some_holds ?iSome_holds ?a_Clause___init__ ?iClause___init__ ?a_Clause_span ?iClause_span ?a_Clause_room ?iClause_room ?a_Clause_key ?iClause_key ?a_Own___init__ ?iOwn___init__ ?a_Own_span ?iOwn_span ?a_Layer___init__ ?iLayer___init__ ?a_Layer_span ?iLayer_span ?a_Limit___init__ ?iLimit___init__ ?a_Limit_room ?iLimit_room ?a_Deal___init__ ?iDeal___init__ ?a_Cover___init__ ?iCover___init__ ?lCover___init__ ?cCover___init__ ?kCover___init__ ?dlCover___init__ ?a_Cover_asks ?iCover_asks ?a_Cover_spans ?iCover_spans ?a_Cover_window ?iCover_window ?a_Cover_parts ?iCover_parts ?a_Cover_rest ?iCover_rest ?a_Book___init__ ?iBook___init__ ?a_Counts___init__ ?iCounts___init__ ?a_Counts_have ?iCounts_have ?a_Counts_add ?iCounts_add ?a_Own_room ?a_Own_key ?a_Layer_room ?a_Layer_key ?a_Limit_span ?a_Limit_key ?bg_Clause___init__ ?br_Clause___init__ ?bf_Clause___init__ ?ni_Condition ?z_WAYS ?lw_WAYS ?z_CAUSE ?z_CENTS ?z_COVERED_ONE ?z_DAY ?z_DAYS_OF_YEAR ?z_EVENT ?z_LETTERS ?z_LONGEST_NAME ?z_MOST_CENTS ?z_MOST_CLAUSES ?z_MOST_COVERS ?z_MOST_PLACES ?z_MOST_TURNS ?z_NUMBER ?z_THING ?z_bool ?z_enumerate ?z_int ?z_isinstance ?z_len ?z_list ?z_max ?z_min ?z_range ?z_set ?z_sorted ?z_str ?z_sum ?z_tuple ?z_zip
  (case q_Condition|q_CauseIs|q_ThingIs|q_DaysIn|q_Over|q_Not|q_All|q_Some|q_Clause|q_Own|q_Layer|q_Limit|q_Deal|q_Cover|q_Book|q_Counts => (constructor <;> k_is))
  (case na_CauseIs_name|na_ThingIs_name|na_DaysIn_first|na_DaysIn_last|na_Over_cents|na_Not_part|na_All_several|na_Some_several|na_Clause_by|ha_Clause|hm_Clause|gs|tk|na_Own_cents|na_Own_by|ha_Own|hm_Own|na_Layer_first|na_Layer_upto|na_Layer_by|ha_Layer|hm_Layer|na_Limit_most|na_Limit_by|ha_Limit|hm_Limit|na_Deal_wheel|na_Deal_weights|na_Cover_name|na_Cover_condition|na_Cover_clauses|na_Cover_houses|na_Cover_deal|na_Cover_waits|na_Book_covers|na_Book_asking|na_Counts_kept|a_Condition_holds|a_CauseIs___init__|a_CauseIs_holds|a_ThingIs___init__|a_ThingIs_holds|a_DaysIn___init__|a_DaysIn_holds|a_Over___init__|a_Over_holds|a_Not___init__|a_Not_holds|a_All___init__|a_All_holds|a_Some___init__|a_Some_holds|a_Clause___init__|a_Clause_span|a_Clause_room|a_Clause_key|a_Own___init__|a_Own_span|a_Layer___init__|a_Layer_span => k_is)
  (case a_Limit___init__|a_Limit_room|a_Deal___init__|a_Cover___init__|iCover___init__|lCover___init__|cCover___init__|kCover___init__|dlCover___init__|a_Cover_asks|a_Cover_spans|a_Cover_window|a_Cover_parts|a_Cover_rest|a_Book___init__|a_Counts___init__|a_Counts_have|a_Counts_add|a_Own_room|a_Own_key|a_Layer_room|a_Layer_key|a_Limit_span|a_Limit_key|bg_Clause___init__|br_Clause___init__|bf_Clause___init__|ni_Condition|z_WAYS|lw_WAYS|z_CAUSE|z_CENTS|z_COVERED_ONE|z_DAY|z_DAYS_OF_YEAR|z_EVENT|z_LETTERS|z_LONGEST_NAME|z_MOST_CENTS|z_MOST_CLAUSES|z_MOST_COVERS|z_MOST_PLACES|z_MOST_TURNS|z_NUMBER|z_THING|z_bool|z_enumerate|z_int|z_isinstance|z_len|z_list|z_max|z_min|z_range|z_set|z_sorted|z_str|z_sum|z_tuple|z_zip => k_is)
  (case d0|d1|d2|d3|d4|d5|d6|d7|d8|d9|d10|d11|d12|d13|d14|d15|d16|d17|d18|d19|d20|d21|d22|d23|d24|d25|d26|d27|d28|d29|d30|d31|d32|d33|d34|d35|d36|d37|d38|d39|d40|d41|d42|d43|d44|d45|d46|d47|d48|d49|d50 => (apply L2.DfIn.of <;> k_is))
  (case iCondition_holds|iCauseIs___init__|iCauseIs_holds|iThingIs___init__|iThingIs_holds|iDaysIn___init__|iDaysIn_holds|iOver___init__|iOver_holds|iNot___init__|iNot_holds|iAll___init__|iAll_holds|iSome___init__|iSome_holds|iClause___init__|iClause_span|iClause_room|iClause_key|iOwn___init__|iOwn_span|iLayer___init__|iLayer_span|iLimit___init__|iLimit_room|iDeal___init__|iCover_asks|iCover_spans|iCover_window|iCover_parts|iCover_rest|iBook___init__|iCounts___init__|iCounts_have|iCounts_add => (apply L2.MtIn.of <;> k_is))
  (case kt_Clause_Limit|kt_Own_Limit|kt_Layer_Limit|kt_Limit_Limit => kit_is)
  (case nd_C => decide)

import PyProof.Rows.All
import Wide.All
import OpenK.AllK
import Wide.FinOn
import Lean
import PyProof.EqAt
import PyProof.EqKinds
import PyProof.TupleCall
import KE.KSortTup
import PyProof.ZipIter
import KE.KTurns
import PyProof.NeKinds
import PyProof.MeetsIn
import PyProof.DictIter
import PyProof.DictKind
import KE.KRevIter
import PyProof.FString5
import KE.KDictSum
import PyProof.CompMap
import PyProof.CompUse
import PyProof.WalksEnum
import PyProof.EnumMake
import PyProof.Rows.EnumRows
import KE.LcSums
import PyProof.Rows.MinMaxN
import PyProof.DictItems
import PyProof.IsiH_list
import PyProof.AttrMissHeap
import KE.KDictOf
import PyProof.FactsAll.zip_1
import KE.KItemsList
import PyProof.Rows.CountFlat
import PyProof.Rows.BitMore
import PyProof.Rows.StrWeight2
import PyProof.StrWalks
import PyProof.StrBlock2
import PyProof.StrCalls
import PyProof.CallStr
import KE.KIntText
import PyProof.SliceStr2
import PyProof.StrCalls2
import PyProof.StrLawsIdx
import PyProof.StrLaws
import PyProof.ExcInit
import PyProof.ExcClass3
import PyProof.InstLoad
import PyProof.InstStoreFacts
import PyProof.ExcBaseAll.ValueError
import PyProof.ExcArgsOwn
import PyProof.Rows.CatchOwn
import PyProof.ExcAttrAll.ValueError
import PyProof.RulesAs
import PyProof.RulesDel
import KE.KIsAll
import PyProof.IsiBase
import PyProof.StrLawsChain
import PyProof.StrLawsTight
import PyProof.Rows.StrFacts2
import PyProof.Rows.StrNews2
import KE.IntTextText
import PySem.Challenge.RW_recordgate_k04_thing_texts_refused
import KE.KLam
import KE.KNestM
import PyProof.StrLawsIn
import PyProof.StrLawsNeg
import PyProof.Rows.StrFirst
local macro_rules | `(!0) => `(by decide +kernel)
local macro_rules | `(!1) => `(by omega)
local macro_rules | `(!2) => `(by simp)
local macro_rules | `(!3) => `(by decide)
local macro_rules | `(!4) => `(by assumption)
open List (mem_filter mem_range filterMap_cons mem_cons_self mem_cons_of_mem mem_cons mem_append mem_append_left getElem?_set_self getElem?_set_ne mem_filterMap mem_append_right size_toArray length_cons map_cons length_map append_nil nodup_cons of_mem_zip replicate length length_take getElem?_append_right getElem?_append_left getElem?_map mem_of_getElem? length_append length_replicate length_drop all_cons any_cons reverse_cons length_singleton map_nil find?_cons any_eq_true mem_map mem_singleton forIn_nil forIn_cons lookup_cons toArray getElem?_reverse getElem?_eq_none length_reverse getElem?_eq_getElem range' getElem_mem ext_getElem getD_eq_getElem?_getD sum_cons map_map map_congr_left flatMap_cons drop_eq_getElem_cons zip_cons_cons drop_of_length_le zip_nil_left all_eq_true getElem_of_mem drop_length not_mem_nil drop_zero forIn_toArray nodup_range length_range range_succ flatMap_append nodup_nil map_append nodup_append map_id mem_of_mem_take map_take map_drop replicate_succ cons_append take_succ_cons nil_append append_assoc drop_drop take_succ any_append flatten_append flatten_cons replicate_succ' take_of_length_le mem_flatten any_nil flatten_nil filter_append length_filter_le pairwise_iff_getElem idxOf_append zipIdx_cons idxOf all_map take_succ_eq_append_getElem map_snd_zip reverse_append reverse_reverse dropLast_concat count_filter filter_sublist mem_replicate reverse_eq_nil_iff drop_left map take_left getElem?_take nodup_iff_pairwise_ne)
open Nat (lt_of_lt_of_le lt_irrefl ne_of_lt le_trans le_of_lt ne_of_gt le_refl zero_le le_of_eq lt_succ_self le_succ lt_of_le_of_lt lt_trans lt_succ_of_lt not_le lt_of_succ_lt one_pos succ_pos sub_zero lt_or_ge add_sub_cancel_left not_lt_zero lt_of_succ_lt_succ le_add_right succ_le_succ le_total zero_testBit eq_of_testBit_eq testBit_and testBit_or testBit_xor testBit_two_pow lt_trichotomy min_eq_left add_mul succ_mul mul_le_mul_right)
open Option (isSome_iff_exists getD_none isSome_map getD_some)
open PySem.W (instObj methodObj lookIn plainGet hasDictIn findIn handedIn plainGet_of isFn plainOver takerIn makesIn emptyDict keepIn kitOne kia_one kitx_none kitx_bool kitx_int kitx_str kitx_float kitx_list kitx_tuple kitx_dict kitx_own callWith_K callWith_K0 cellsFrom_some fnOf codeIn kitAny kia_tup nsIn mg_of mg_none_of Frag)
open PyProof.Rows (boot_isinstance boot_int boot_str boot_bool)
open PySem (list_append boot_len)
open Int (toNat_natCast one_mul)
open Classical (byContradiction)
set_option bootstrap.genMatcherCode false
set_option genSizeOf false
set_option compiler.extract_closed false
set_option Elab.async false
set_option linter.all false
set_option maxRecDepth 100000
namespace L2
open PySem PySem.Spec PyProof.Rows
abbrev B1:=Sum Int Str
def aT:B1->Value->Bool
 |.inl k,v=>Value.isInt k v
 |.inr x,v=>Value.isStrOf x v
def BK(w:World):B1->Int
 |.inl k=>hashInt k
 |.inr x=>hashStr w x
theorem V4:∀{k:B1}{v:Value},aT k v=true->(∃i t,k=Sum.inl i/\v=Value.int i t)∨(∃x t,k=Sum.inr x/\v=Value.str x t)
 |.inl i,v,h=>by
  obtain⟨t,e⟩:=Value.isInt_shape (k:=i) (v:=v) h;exact .inl ⟨i,t,rfl,e⟩
 |.inr x,v,h=>by
  obtain⟨t,e⟩:=Value.isStrOf_shape (x:=x) (v:=v) h;exact .inr ⟨x,t,rfl,e⟩
theorem BL(i:Int)(t:Tok):aT (.inl i) (.int i t)=true:=by simp[aT,Value.isInt]
theorem BN(x:Str)(t:Tok):aT (.inr x) (.str x t)=true:=by simp[aT,Value.isStrOf]
theorem BO(a b:Int):decide ((Sum.inl a:B1)=Sum.inl b)=(a==b):=by
 by_cases e:a=b
 ·subst e;simp
 ·have h:¬(Sum.inl a:B1)=Sum.inl b:=λq=>e (Sum.inl.inj q)
  rw[decide_eq_false h];exact(beq_eq_false_iff_ne.mpr e).symm
theorem BP(a b:Str):decide ((Sum.inr a:B1)=Sum.inr b)=decide (a=b):=by
 by_cases e:a=b
 ·subst e;simp
 ·have h:¬(Sum.inr a:B1)=Sum.inr b:=λq=>e (Sum.inr.inj q)
  rw[decide_eq_false h,decide_eq_false e]
theorem BQ(a:Int)(b:Str):decide ((Sum.inl a:B1)=Sum.inr b)=false:=decide_eq_false (λq=>nomatch q)
theorem BR(a:Str)(b:Int):decide ((Sum.inr a:B1)=Sum.inl b)=false:=decide_eq_false (λq=>nomatch q)
def P1(prog:Program)(w:World):PySem.KeyKind prog w B1 where
 is:=aT
 hash:=BK w
 inj:=λv a b ha hb=>by
  rcases V4 ha with⟨i,t,rfl,rfl⟩|⟨x,t,rfl,rfl⟩
  ·rcases V4 hb with⟨j,u,rfl,e⟩|⟨y,u,rfl,e⟩
   ·injection e with e1 _;rw[e1]
   ·exact nomatch e
  ·rcases V4 hb with⟨j,u,rfl,e⟩|⟨y,u,rfl,e⟩
   ·exact nomatch e
   ·injection e with e1 _;rw[e1]
 byValue:=λk v h=>by
  rcases V4 h with⟨i,t,rfl,rfl⟩|⟨x,t,rfl,rfl⟩<;>rfl
 pyHash:=λhv h=>by
  rcases V4 hv with⟨i,t,rfl,rfl⟩|⟨x,t,rfl,rfl⟩
  ·exact wpAny_pyHash_int h
  ·exact wpAny_pyHash_str h
 eqBool:=λhu hv h=>by
  rcases V4 hu with⟨i,t,rfl,rfl⟩|⟨x,t,rfl,rfl⟩
  ·rcases V4 hv with⟨j,u,rfl,rfl⟩|⟨y,u,rfl,rfl⟩
   ·rw[BO]at h;exact wpAny_eqBool_int h
   ·rw[BQ]at h;exact SeqAt.EqAt.int_str i t y u _ _ _ _ h
  ·rcases V4 hv with⟨j,u,rfl,rfl⟩|⟨y,u,rfl,rfl⟩
   ·rw[BR]at h;exact SeqAt.EqAt.str_int x t j u _ _ _ _ h
   ·rw[BP]at h;exact wpAny_eqBool_str h
 «strs»:=λk x t v h=>by
  rcases V4 h with⟨i,u,rfl,e⟩|⟨y,u,rfl,e⟩
  ·exact nomatch e
  ·injection e with e1 _
   subst e1;cases v<;>rfl
theorem BS(prog:Program)(w:World)(i:Int)(t:Tok):(P1 prog w).is (.inl i) (.int i t)=true:=BL i t
theorem BT(prog:Program)(w:World)(x:Str)(t:Tok):(P1 prog w).is (.inr x) (.str x t)=true:=BN x t
end L2
namespace L2
open PySem PySem.Spec PyProof.Rows
inductive V where
 |non|bl (b:Bool)|int (i:Int)|str (x:Str)|byt (b:Array UInt8)|flt (b:UInt64)|ref (a:Addr)|ty (n:String)
 deriving DecidableEq
def RelV:V->Value->Prop
 |.non,u=>u=Value.none
 |.bl b,u=>u=Value.bool b
 |.int i,u=>∃t,u=Value.int i t
 |.str x,u=>∃t,u=Value.str x t
 |.byt b,u=>∃t,u=Value.bytes b t
 |.flt b,u=>∃t,u=Value.float b t
 |.ref a,u=>u=Value.ref a
 |.ty n,u=>u=Value.type n
abbrev Vals:List V->List Value->Prop:=Paired RelV
theorem Vals.length{xs:List V}{us:List Value}(r:Vals xs us):xs.length=us.length:=Paired.length r
theorem Vals.get:∀{xs:List V}{us:List Value}{i:Nat}{x:V},Vals xs us->xs[i]?=some x->∃u,us[i]?=some u/\RelV x u
 |_,_,_,_,.nil,e=>by simp at e
 |_,_,0,_,.cons r _,e=>by simp at e;subst e;exact⟨_,rfl,r⟩
 |_,_,i+1,x,.cons _ t,e=>by
  obtain⟨u,h1,h2⟩:=Vals.get (i:=i) (x:=x) t (by simpa using e);exact⟨u,by simpa using h1,h2⟩
theorem Vals.set{x:V}{u:Value}(r:RelV x u):∀{xs:List V}{us:List Value}(i:Nat),Vals xs us->Vals (xs.set i x) (us.set i u)
 |_,_,_,.nil=>.nil
 |_,_,0,.cons _ t=>.cons r t
 |_,_,i+1,.cons q t=>.cons q (Vals.set r i t)
theorem Vals.append:∀{xs ys:List V}{us ws:List Value},Vals xs us->Vals ys ws->Vals (xs++ys) (us++ws)
 |_,_,_,_,.nil,s=>s
 |_,_,_,_,.cons r t,s=>.cons r (Vals.append t s)
theorem Vals.take:∀{xs:List V}{us:List Value}(n:Nat),Vals xs us->Vals (xs.take n) (us.take n)
 |_,_,0,_=>.nil
 |_,_,_+1,.nil=>.nil
 |_,_,n+1,.cons r t=>.cons r (Vals.take n t)
theorem Vals.drop:∀{xs:List V}{us:List Value}(n:Nat),Vals xs us->Vals (xs.drop n) (us.drop n)
 |_,_,0,r=>r
 |_,_,_+1,.nil=>.nil
 |_,_,n+1,.cons _ t=>Vals.drop n t
def RelO:Option V->Option Value->Prop
 |some v,some u=>RelV v u
 |none,none=>True
 |_,_=>False
def KV{κ:Type}:List (κ×V)->List (κ×Value)->Prop:=Paired λ(p:κ×V) (q:κ×Value)=>p.1=q.1/\RelV p.2 q.2
def kV:B1->V
 |.inl i=>.int i
 |.inr x=>.str x
inductive HO where
 |lst (xs:List V)
 |tup (xs:List V)
 |dK (kvs:List (B1×V))|dT (kvs:List (List B1×V))
 |set (S:Int->Bool) (n:Nat)
 |ins (C dx:Addr) (fs:List (Str×V))
 |own (x:Addr)
 |xd (fs:List (Str×V))
 |met (f x:Addr)
 |rng (lo hi:Int)
 |frz (o:Obj) (u:HO)
 |tbl (ps:Array Value)
 |ext (φ:Heap->Prop)
abbrev Hp:=Addr->Option HO
def upd(H:Hp)(a:Addr)(o:HO):Hp:=λb=>if b=a then some o else H b
theorem A6{H:Hp}{a:Addr}{o:HO}:upd H a o a=some o:=by unfold upd;rw[if_pos rfl]
theorem B4{H:Hp}{a b:Addr}{o:HO}(h:b≠a):upd H a o b=H b:=by unfold upd;rw[if_neg h]
theorem Z5{H:Hp}{a b:Addr}{o u:HO}(h:H a=some o)(h':H b=some u)(d:o≠u):a≠b:=by
 intro e;subst e;rw[h]at h';exact d (Option.some.inj h')
theorem E5{H:Hp}{a b:Addr}{o:HO}(h:H a=some o)(h':H b=none):a≠b:=by
 intro e;subst e;rw[h]at h';cases h'
section
variable(P:Program)(w:World)
def ObjOk(H:Hp)(h:Heap)(a:Addr):HO->Prop
 |.lst xs=>xs.length<=sizeLine/\∃(its:List Value)(n:Nat),Vals xs its/\h.get? a=some {cls:=.type "list",data:=.seq its.toArray n}
 |.tup xs=>xs.length<=sizeLine/\∃its:List Value,Vals xs its/\IsTup h a its.toArray
 |.dK kvs=>kvs.length<=sizeLine/\(a==sysModules)=false/\∃vs,KV kvs vs/\h.DictOf (P1 P w) a vs
 |.dT kvs=>kvs.length<=sizeLine/\(a==sysModules)=false/\∃xs:List (List B1×Addr×Value),
   Paired (λ(p:List B1×V) (q:List B1×Addr×Value)=>p.1=q.1/\H q.2.1=some (.tup (p.1.map kV))/\RelV p.2 q.2.2) kvs xs/\
   ∃o es ep,h.get? a=some o/\o.ExactDict/\o.data=.dict es ep/\es.toList=xs.map (entryOfKey (tupleKind (P1 P w)))/\(xs.map (·.1)).Nodup
 |.set S n=>h.SetOf (intKind P w) a S n
 |.ins C dx fs=>H dx=some (.own a)/\fs.length<=1000/\dx≠a/\h.get? a=some (instObj C dx)/\
   ∃mA,h.Ns1 dx mA/\(∀f,RelO (fs.lookup f) (mA f))/\PySem.Within mA (fs.map (·.1))
 |.own _=>∃o,h.get? a=some o
 |.xd fs=>∃mA,h.Ns1 a mA/\∀f,RelO (fs.lookup f) (mA f)
 |.rng lo hi=>∃t u v,h.get? a=some {cls:=.type "range",data:=.fields #[.int lo t,.int hi u,.int 1 v]}
 |.frz o u=>h.get? a=some o/\ObjOk H h a u
 |.tbl ps=>h.get? a=some {cls:=.none,data:=.fields ps}
 |.met f x=>h.get? a=some (methodObj (.ref f) (.ref x))
 |.ext φ=>φ h/\(∃o,h.get? a=some o)/\∀h1 h2:Heap,φ h1->(∀o,h1.get? a=some o->h2.get? a=some o)->φ h2
def HOk(H:Hp)(h:Heap):Prop:=∀a o,H a=some o->ObjOk P w H h a o
end
section
variable{P:Program}{w:World}{H H':Hp}{h h':Heap}{a:Addr}{o:HO}
theorem ObjOk.lt(x:ObjOk P w H h a o):a<h.objs.size:=by
 cases o with
 |lst xs=>obtain⟨_,_,_,_,e⟩:=x;exact Heap.lt_size e
 |tup xs=>obtain⟨_,_,_,p⟩:=x;exact p.lt
 |dK kvs=>obtain⟨_,_,_,_,o,_,_,e,_⟩:=x;exact Heap.lt_size e
 |dT kvs=>obtain⟨_,_,_,_,o,_,_,e,_⟩:=x;exact Heap.lt_size e
 |set S n=>obtain⟨o,_,_,_,e,_⟩:=x;exact Heap.lt_size e
 |ins C dx fs=>obtain⟨_,_,_,e,_⟩:=x;exact Heap.lt_size e
 |own y=>obtain⟨_,e⟩:=x;exact Heap.lt_size e
 |xd fs=>obtain⟨_,⟨_,_,_,e,_⟩,_⟩:=x;exact Heap.lt_size e
 |rng lo hi=>obtain⟨_,_,_,e⟩:=x;exact Heap.lt_size e
 |frz ob u=>obtain⟨e,_⟩:=x;exact Heap.lt_size e
 |tbl ps=>exact Heap.lt_size (show h.get? a=some _ from x)
 |met f y=>exact Heap.lt_size (show h.get? a=some _ from x)
 |ext φ=>obtain⟨_,⟨_,e⟩,_⟩:=x;exact Heap.lt_size e
theorem Paired.mapP{α β:Type}{F G:α->β->Prop}:∀{l₁:List α}{l₂:List β},Paired F l₁ l₂->(∀a b,F a b->G a b)->Paired G l₁ l₂
 |_,_,.nil,_=>.nil
 |_,_,.cons r t,f=>.cons (f _ _ r) (Paired.mapP t f)
theorem ObjOk.stay(x:ObjOk P w H h a o)(k:∀b u,(b=a∨H b=some (.own a))->h.get? b=some u->h'.get? b=some u)
  (ho:∀b,H b=some (.own a)->H' b=some (.own a)) (ht:∀b xs,H b=some (.tup xs)->H' b=some (.tup xs)):ObjOk P w H' h' a o:=by
 induction o with
 |lst xs=>obtain⟨z,its,n,r,e⟩:=x;exact⟨z,its,n,r,k _ _ (.inl rfl) e⟩
 |tup xs=>obtain⟨z,its,r,ob,e,c⟩:=x;exact⟨z,its,r,ob,k _ _ (.inl rfl) e,c⟩
 |dK kvs=>obtain⟨z,y,vs,r,ob,es,ep,e,c⟩:=x;exact⟨z,y,vs,r,ob,es,ep,k _ _ (.inl rfl) e,c⟩
 |dT kvs=>
  obtain⟨z,y,xs,r,ob,es,ep,e,c⟩:=x;exact⟨z,y,xs,Paired.mapP r λp q z=>⟨z.1,ht _ _ z.2.1,z.2.2⟩,ob,es,ep,k _ _ (.inl rfl) e,c⟩
 |set S n=>obtain⟨ob,es,ep,t,e,c⟩:=x;exact⟨ob,es,ep,t,k _ _ (.inl rfl) e,c⟩
 |ins C dx fs=>
  obtain⟨d,z,ne,e,mA,⟨od,es,ep,e2,c⟩,r⟩:=x;exact⟨ho _ d,z,ne,k _ _ (.inl rfl) e,mA,⟨od,es,ep,k _ _ (.inr d) e2,c⟩,r⟩
 |own y=>obtain⟨ob,e⟩:=x;exact⟨ob,k _ _ (.inl rfl) e⟩
 |xd fs=>obtain⟨mA,⟨od,es,ep,e,c⟩,r⟩:=x;exact⟨mA,⟨od,es,ep,k _ _ (.inl rfl) e,c⟩,r⟩
 |rng lo hi=>obtain⟨t,u,v,e⟩:=x;exact⟨t,u,v,k _ _ (.inl rfl) e⟩
 |frz ob u ih=>obtain⟨e,q⟩:=x;exact⟨k _ _ (.inl rfl) e,ih q⟩
 |tbl ps=>
  have e:h.get? a=some {cls:=.none,data:=.fields ps}:=x;show h'.get? a=some {cls:=.none,data:=.fields ps};exact k a _ (.inl rfl) e
 |met f y=>
  have e:h.get? a=some (methodObj (.ref f) (.ref y)):=x;show h'.get? a=some (methodObj (.ref f) (.ref y));exact k a _ (.inl rfl) e
 |ext φ=>obtain⟨p,⟨o,e⟩,st⟩:=x;exact⟨st _ _ p λo q=>k _ _ (.inl rfl) q,⟨o,k _ _ (.inl rfl) e⟩,st⟩
theorem HOk.lt(x:HOk P w H h)(e:H a=some o):a<h.objs.size:=(x a o e).lt
theorem HOk.fresh(x:HOk P w H h)(e:h.objs.size<=a):H a=none:=by
 cases q:H a with
 |none=>rfl
 |some u=>exact absurd (lt_of_lt_of_le (x.lt q) e) (lt_irrefl _)
theorem HOk.kept(x:HOk P w H h)(k:∀b u,h.get? b=some u->h'.get? b=some u):HOk P w H h':=λa o e=>
 (x a o e).stay (λb u _ q=>k b u q) (λ_ q=>q) λ_ _ q=>q
theorem HOk.laid(x:HOk P w H h)(k:∀b u,h.get? b=some u->h'.get? b=some u)(hp:h.objs.size<=a)(new:ObjOk P w (upd H a o) h' a o):HOk P w (upd H a o) h':=λb u e=>by
 have hn:=x.fresh hp;by_cases hb:b=a
 ·subst hb;rw[A6]at e;cases e;exact new
 ·rw[B4 hb]at e
  exact(x b u e).stay (λc v _ q=>k c v q) (λc q=>by rw[B4 (E5 q hn)];exact q) λc xs q=>by rw[B4 (E5 q hn)];exact q
end
def Rd(H:Hp)(a:Addr)(u:HO):Prop:=H a=some u∨∃o,H a=some (.frz o u)
theorem Rd.ok{P:Program}{w:World}{H:Hp}{h:Heap}{a:Addr}{u:HO}(r:Rd H a u)(x:HOk P w H h):ObjOk P w H h a u:=by
 rcases r with r|⟨o,r⟩
 ·exact x a u r
 ·obtain⟨_,q⟩:=x a _ r
  exact q
def cO:Option HO->Prop
 |some (.lst _)=>True
 |some (.dK _)=>True
 |some (.dT _)=>True
 |some (.set _ _)=>True
 |some (.ins _ _ _)=>True
 |some (.ext _)=>True
 |_=>False
section
variable{P:Program}{w:World}{H:Hp}{h h':Heap}{x e:Addr}{o':HO}
theorem HOk.write(ok:HOk P w H h)(mu:cO (H x))(he:e=x∨H e=some (.own x))(k:∀b u,b≠e->h.get? b=some u->h'.get? b=some u)(heo:∃u,h'.get? e=some u)
  (new:ObjOk P w (upd H x o') h' x o'):HOk P w (upd H x o') h':=λb u q=>by
 have nown:∀c y,H c=some (.own y)->c≠x:=λc y r z=>by subst z;rw[r]at mu;exact mu
 have ntup:∀c xs,H c=some (.tup xs)->c≠x:=λc xs r z=>by subst z;rw[r]at mu;exact mu
 by_cases hb:b=x
 ·subst hb;rw[A6]at q;cases q;exact new
 ·rw[B4 hb]at q
  by_cases hbe:b=e
  ·have q':H b=some (.own x):=by
    rcases he with z|z
    ·exact absurd (hbe.trans z) hb
    ·rw[hbe];exact z
   rw[q]at q';cases q';obtain⟨v,hv⟩:=heo;exact⟨v,by rw[hbe];exact hv⟩
  ·refine(ok b u q).stay (λc v hc r=>k c v ?_ r) (λc r=>by rw[B4 (nown c b r)];exact r) λc xs r=>by rw[B4 (ntup c xs r)];exact r
   rcases hc with rfl|hc
   ·exact hbe
   ·rintro rfl
    rcases he with z|z
    ·exact nown c b hc z
    ·rw[hc]at z;cases z;exact hb rfl
end
structure Un(fs ex:List Addr)(H H':Hp)(h h':Heap):Prop where
 keep:∀b o,h.get? b=some o->H b=none->b∉fs->b∉ex->h'.get? b=some o
 slot:∀b o,h.get? b=some o->H b=none->b∈fs->b∉ex->∃sl,h'.get? b=some {o with slots:=sl}
 free:∀b o,h.get? b=some o->H b=none->b∉ex->H' b=none
 there:∀b o,h.get? b=some o->b∉ex->∃o',h'.get? b=some o'
 tups:∀b xs,H b=some (.tup xs)->H' b=some (.tup xs)
 frzs:∀b o u,H b=some (.frz o u)->H' b=some (.frz o u)
 tbls:∀b ps,H b=some (.tbl ps)->∃more,H' b=some (.tbl (ps++more))
section
variable{fs fs' ex ex':List Addr}{H H1 H2:Hp}{h h1 h2 h':Heap}{a x e:Addr}{o:HO}
theorem Un.any(u:Un fs ex H H1 h h1){b:Addr}{ob:Obj}(q:h.get? b=some ob)(n:H b=none)(hx:b∉ex):∃sl,h1.get? b=some {ob with slots:=sl}:=by
 by_cases hb:b∈fs
 ·exact u.slot b ob q n hb hx
 ·exact⟨ob.slots,u.keep b ob q n hb hx⟩
theorem Un.kept(k:∀b u,h.get? b=some u->h'.get? b=some u):Un fs ex H H h h':=
 ⟨λb ob q _ _ _=>k b ob q,λb ob q _ _ _=>⟨ob.slots,k b ob q⟩,λ_ _ _ n _=>n,λb ob q _=>⟨ob,k b ob q⟩,λ_ _ q=>q,λ_ _ _ q=>q,λ_ ps q=>⟨#[],by rw[q];simp⟩⟩
theorem Un.refl:Un fs ex H H h h:=Un.kept λ_ _ q=>q
theorem Un.laid(k:∀b u,h.get? b=some u->h'.get? b=some u)(hp:h.objs.size<=a)(hn:H a=none):Un fs ex H (upd H a o) h h' where
 keep:=λb u q _ _ _=>k b u q
 slot:=λb u q _ _ _=>⟨u.slots,k b u q⟩
 free:=λb u q n _=>by rw[B4 (ne_of_lt (lt_of_lt_of_le (Heap.lt_size q) hp))];exact n
 there:=λb u q _=>⟨u,k b u q⟩
 tups:=λb xs q=>by rw[B4 (E5 q hn)];exact q
 frzs:=λb u xs q=>by rw[B4 (E5 q hn)];exact q
 tbls:=λb ps q=>⟨#[],by rw[B4 (E5 q hn),q];simp⟩
theorem Un.write(mu:cO (H x))(he:e=x∨H e=some (.own x))(k:∀b u,b≠e->h.get? b=some u->h'.get? b=some u)(heo:∃u,h'.get? e=some u):Un fs ex H (upd H x o) h h':=by
 have hx:∀b,H b=none->b≠x:=λb n z=>by subst z;rw[n]at mu;exact mu
 have hb:∀b,H b=none->b≠e:=λb n z=>by
  subst z;rcases he with r|r
  ·exact hx b n r
  ·rw[n]at r;cases r
 have hm:∀b u,H b=some u->¬cO (some u)->b≠x:=λb u q nm z=>by subst z;rw[q]at mu;exact nm mu
 refine⟨λb u q n _ _=>k b u (hb b n) q,λb u q n _ _=>⟨u.slots,k b u (hb b n) q⟩,λb u q n _=>by rw[B4 (hx b n)];exact n,λb u q _=>?_,
  λb xs q=>by rw[B4 (hm b _ q λz=>z)];exact q,λb u xs q=>by rw[B4 (hm b _ q λz=>z)];exact q,λb ps q=>⟨#[],by rw[B4 (hm b _ q λz=>z),q];simp⟩⟩
 by_cases hbe:b=e
 ·subst hbe;exact heo
 ·exact⟨u,k b u hbe q⟩
end
def fE(h:Heap)(H:Hp):List Addr:=(List.range h.objs.size).filter λa=>(H a).isSome
def T7(h:Heap)(H:Hp):Heap:=PySem.W.hideAll h (fE h H)
theorem BU(h:Heap)(H:Hp):(T7 h H).objs.size=h.objs.size:=PySem.W.hideAll_size _ _
theorem BV{h:Heap}{H:Hp}{b:Addr}{o:Obj}(e:h.get? b=some o)(n:H b=none):(T7 h H).get? b=some o:=
 PySem.W.hideAll_get _ e λhm=>by
  have q:(H b).isSome=true:=(mem_filter.mp hm).2;rw[n]at q;simp at q
theorem BW{h:Heap}{H:Hp}{b:Addr}{o:Obj}(e:(T7 h H).get? b=some o):h.get? b=some o/\H b=none:=by
 have e':h.get? b=some o:=PySem.W.of_hideAll (fE h H) e;refine⟨e',?_⟩;cases q:H b with
 |none=>rfl
 |some x=>
  have hm:b∈fE h H:=mem_filter.mpr ⟨mem_range.mpr (Heap.lt_size e'),by simp[q]⟩;have z:(T7 h H).get? b=none:=PySem.W.hideAll_none (fE h H) hm;rw[z]at e;cases e
def BX(g h:Heap)(L:Addr):List (Addr×Obj):=(List.range h.objs.size).filterMap λa=>if a=L∨(g.get? a).isSome=true then none else(h.get? a).map λo=>(a,o)
def E3(g h:Heap)(L d:Addr):List (Addr×Obj):=(BX g h L).filter λp=>decide (p.1≠d)
end L2
namespace L2
open PySem PySem.Spec PyProof.Rows
structure Mod(K:Frag)(mg:Str->Option Value)(base:Heap):Prop where
 kin:K.In base
 glob:base.Ns mainGlobals mg
 blt:∃mb,base.Ns builtinsNs mb/\∀x:Str,x≠"__name__"->mb x=bootBuiltins x
 nolimit:base.NoLimit
structure Cx where
 prog:Program
 w:World
 K:Frag
 mg:Str->Option Value
 base:Heap
 A:Around
 N:List Str
 s₀:Shared
 H₀:Hp
 env:Env
 outer:List Env
 stack:List Env
 ex:List Addr
 fn:Str->Bool
 calm:Bool
 pn:List (Addr×Obj)
 xe:Value->Shared->Prop
def N6(l:List Env):List Addr:=l.filterMap (·.frame)
abbrev Cx.fs(X:Cx):List Addr:=N6 X.outer
def cP(sc:Scope)(x:Str):Prop:=sc.names.lookup x=some .local∨sc.names.lookup x=some .cell∨sc.names.lookup x=some .free
def V5(sc:Scope)(x:Str):Prop:=sc.names.lookup x=some .local∨sc.names.lookup x=some .cell
def qU(env:Env)(h:Heap)(m:Str->Option Value)(x:Str)(u:Value):Prop:=
 (env.kindOf x=some .local/\m x=some u)∨((env.kindOf x=some .cell∨env.kindOf x=some .free)/\∃c,env.cells.lookup x=some c/\h.IsCell c (some u))
structure Cx.Ok(X:Cx):Prop where
 mod:Mod X.K X.mg X.base
 kind:X.env.scope.kind=.function
 glob:X.env.globals=mainGlobals
 blt:X.env.builtins=builtinsNs
 above:X.s₀.heap.objs.size<=X.env.locals
 inj:∀x y c,X.env.cells.lookup x=some c->X.env.cells.lookup y=some c->x=y
 has:∀x,(X.env.kindOf x=some .cell∨X.env.kindOf x=some .free)->∃c,X.env.cells.lookup x=some c
 cab:∀x c,X.fn x=true->X.env.cells.lookup x=some c->X.s₀.heap.objs.size<=c
 hd:X.calm=true->X.A.handled=none
 frames:X.A.frames=some X.stack
 stk:X.stack=X.outer∨(X.stack=X.env::X.outer/\X.env.frame=some X.env.locals)
 exf:∀b∈X.ex,b≠X.env.locals/\∀x c,X.env.cells.lookup x=some c->c≠b
 bs:∀b o,X.base.get? b=some o->X.s₀.heap.get? b=some o/\X.H₀ b=none
 bsz:X.base.objs.size<=X.s₀.heap.objs.size
 noex:∀b o,X.base.get? b=some o->b∉X.ex
 exfs:∀b∈X.ex,b∉X.fs
 funs:X.s₀.heap.FunFrames X.base X.outer
 frf:∀b∈X.fs,X.H₀ b=none
structure Inv(X:Cx)(ζ:List (Addr×Obj))(σ:List (Option V))(H:Hp)(s:Shared):Prop where
 ok:X.Ok
 os:s.os=X.s₀.os
 bare:AllBare s.gens
 base:Un X.fs X.ex X.H₀ H X.s₀.heap s.heap
 loc:∃m,s.heap.Ns X.env.locals m/\∀(i:Nat)(x:Str)(v:V),X.N[i]?=some x->σ[i]?=some (some v)->cP X.env.scope x->∃u,RelV v u/\qU X.env s.heap m x u
 cell:∀x c,X.env.cells.lookup x=some c->∃v,s.heap.IsCell c v
 free:H X.env.locals=none
 freeC:∀x c,X.env.cells.lookup x=some c->H c=none
 pin:∀p∈X.pn++ζ,s.heap.get? p.1=some p.2/\H p.1=none/\p.1≠X.env.locals/\p.1∉X.fs/\∀v,p.2.data≠.cell v
 hok:HOk X.prog X.w H s.heap
 len:σ.length=X.N.length
section
variable{X:Cx}{ζ:List (Addr×Obj)}{σ:List (Option V)}{H H':Hp}{s:Shared}{h':Heap}
theorem Cx.Ok.nofr(ok:X.Ok){b:Addr}{o:Obj}(e:X.base.get? b=some o):b∉X.fs:=λhb=>by
 have:=(ok.funs.mem hb).1;rw[e]at this;cases this
theorem Inv.bs(I:Inv X ζ σ H s):∀b o,X.base.get? b=some o->s.heap.get? b=some o/\H b=none:=λb o e=>
 ⟨I.base.keep b o (I.ok.bs b o e).1 (I.ok.bs b o e).2 (I.ok.nofr e) (I.ok.noex b o e),I.base.free b o (I.ok.bs b o e).1 (I.ok.bs b o e).2 (I.ok.noex b o e)⟩
theorem Inv.bk(I:Inv X ζ σ H s):∀b o,X.base.get? b=some o->s.heap.get? b=some o:=λb o e=>(I.bs b o e).1
theorem Inv.mod(I:Inv X ζ σ H s):Mod X.K X.mg X.base:=I.ok.mod
theorem Inv.kIn(I:Inv X ζ σ H s):X.K.In s.heap:=I.ok.mod.kin.keeps I.bk
theorem Inv.lt(I:Inv X ζ σ H s):X.env.locals<s.heap.objs.size:=let⟨_,hn,_⟩:=I.loc;hn.lt
theorem Inv.sz(I:Inv X ζ σ H s):X.s₀.heap.objs.size<=s.heap.objs.size:=le_trans I.ok.above (le_of_lt I.lt)
theorem Inv.nofs(I:Inv X ζ σ H s){a:Addr}(h:s.heap.objs.size<=a):a∉X.fs:=λhb=>by
 obtain⟨_,o,ho,_⟩:=I.ok.funs.mem hb;exact absurd (lt_of_lt_of_le (Heap.lt_size ho) (le_trans I.sz h)) (lt_irrefl _)
theorem Inv.cne(I:Inv X ζ σ H s):∀x c,X.env.cells.lookup x=some c->c≠X.env.locals:=λx c e z=>by
 obtain⟨v,o,ho,hd⟩:=I.cell x c e;obtain⟨m,⟨o',es,ep,ho',hd',_⟩,_⟩:=I.loc;rw[z,ho']at ho;cases ho;rw[hd']at hd;cases hd
theorem Inv.funs(I:Inv X ζ σ H s):s.heap.FunFrames X.base X.outer:=by
 have all:∀(l:List Env),(∀b∈N6 l,b∈X.fs)->X.s₀.heap.FunFrames X.base l->s.heap.FunFrames X.base l:=by
  intro l
  induction l with
  |nil=>intro _ _;trivial
  |cons env r ih=>
   intro hs hl;obtain⟨hk,⟨L,o,hf,hn,ho,hd⟩,hr⟩:=hl;have hL:L∈X.fs:=hs L (by unfold N6;rw[filterMap_cons,hf];exact mem_cons_self);obtain⟨sl,e⟩:=I.base.slot L o ho (I.ok.frf L hL) hL λz=>I.ok.exfs L z hL
   exact⟨hk,⟨L,_,hf,hn,e,hd⟩,ih (λb hb=>hs b (by unfold N6;rw[filterMap_cons,hf];exact mem_cons_of_mem _ hb)) hr⟩
 exact all X.outer (λ_ hb=>hb) I.ok.funs
theorem Inv.stack(I:Inv X ζ σ H s):s.heap.FunFrames X.base X.stack:=by
 rcases I.ok.stk with e|⟨e,hf⟩
 ·rw[e];exact I.funs
 ·rw[e]
  obtain⟨m,hn,_⟩:=I.loc;refine .cons (by rw[I.ok.kind];decide) hf hn ?_ I.funs;exact Heap.get?_none_of_le (le_trans I.ok.bsz I.ok.above)
theorem Inv.stkSub(I:Inv X ζ σ H s):∀b∈N6 X.stack,b∈X.env.locals::X.fs:=λb hb=>by
 rcases I.ok.stk with e|⟨e,hf⟩
 ·rw[e]at hb;exact mem_cons_of_mem _ hb
 ·rw[e]at hb
  unfold N6 at hb;rw[filterMap_cons,hf]at hb;exact hb
theorem Inv.stkFree(I:Inv X ζ σ H s):∀b∈N6 X.stack,H b=none:=λb hb=>by
 rcases mem_cons.mp (I.stkSub b hb)with e|hb
 ·rw[e];exact I.free
 ·obtain⟨_,o,ho,_⟩:=I.ok.funs.mem hb
  exact I.base.free b o ho (I.ok.frf b hb) λz=>I.ok.exfs b z hb
theorem Inv.step{g':Array GenState}{t':Nat}{d':Drawn}{ch:List Addr}(I:Inv X ζ σ H s)
  (hch:∀b∈ch,(b∈X.ex∨X.s₀.heap.objs.size<=b)/\b≠X.env.locals/\(∀x c,X.env.cells.lookup x=some c->c≠b)/\∀p∈X.pn++ζ,p.1≠b)
  (keep:∀b o,b≠X.env.locals->b∉X.fs->b∉ch->s.heap.get? b=some o->H b=none->h'.get? b=some o)
  (slot:∀b o,b≠X.env.locals->b∈X.fs->b∉ch->s.heap.get? b=some o->H b=none->∃sl,h'.get? b=some {o with slots:=sl}) (free:∀b o,b∉ch->s.heap.get? b=some o->H b=none->H' b=none)
  (there:∀b o,b∉ch->s.heap.get? b=some o->∃o',h'.get? b=some o')
  (tups:∀b xs,H b=some (.tup xs)->H' b=some (.tup xs)) (frzs:∀b o u,H b=some (.frz o u)->H' b=some (.frz o u)) (tbls:∀b ps,H b=some (.tbl ps)->∃more,H' b=some (.tbl (ps++more)))
  (ns:∀m,s.heap.Ns X.env.locals m->h'.Ns X.env.locals m) (hok:HOk X.prog X.w H' h') (hg:AllBare g'):
  Inv X ζ σ H' {s with heap:=h',gens:=g',drawn:=d',toks:=t'}:=by
 have neL:∀b o,X.s₀.heap.get? b=some o->b≠X.env.locals:=λb o e=>ne_of_lt (lt_of_lt_of_le (Heap.lt_size e) I.ok.above)
 have neC:∀b o,X.s₀.heap.get? b=some o->b∉X.ex->b∉ch:=λb o e hx hb=>by
  rcases(hch b hb).1 with z|z
  ·exact hx z
  ·exact absurd (lt_of_lt_of_le (Heap.lt_size e) z) (lt_irrefl _)
 have cellK:∀x c,X.env.cells.lookup x=some c->∀v,s.heap.IsCell c v->h'.IsCell c v:=λx c e v ⟨o,ho,hd⟩=>by
  have nch:c∉ch:=λz=>(hch c z).2.2.1 x c e rfl
  by_cases hc:c∈X.fs
  ·obtain⟨sl,q⟩:=slot c o (I.cne x c e) hc nch ho (I.freeC x c e)
   exact⟨_,q,hd⟩
  ·exact⟨o,keep c o (I.cne x c e) hc nch ho (I.freeC x c e),hd⟩
 refine⟨I.ok,I.os,hg,⟨λb o e n hb hx=>?_,λb o e n hb hx=>?_,λb o e n hx=>?_,λb o e hx=>?_,λb xs e=>tups b xs (I.base.tups b xs e),λb o xs e=>frzs b o xs (I.base.frzs b o xs e),λb ps e=>?_⟩,?_,λx c e=>?_,?_,λx c e=>?_,λp hp=>?_,hok,I.len⟩
 ·exact keep b o (neL b o e) hb (neC b o e hx) (I.base.keep b o e n hb hx) (I.base.free b o e n hx)
 ·obtain⟨sl,e1⟩:=I.base.slot b o e n hb hx
  obtain⟨sl',e2⟩:=slot b _ (neL b o e) hb (neC b o e hx) e1 (I.base.free b o e n hx);exact⟨sl',e2⟩
 ·obtain⟨o',e1⟩:=I.base.there b o e hx
  exact free b o' (neC b o e hx) e1 (I.base.free b o e n hx)
 ·obtain⟨o',e1⟩:=I.base.there b o e hx
  exact there b o' (neC b o e hx) e1
 ·obtain⟨m1,e1⟩:=I.base.tbls b ps e
  obtain⟨m2,e2⟩:=tbls b _ e1;exact⟨m1++m2,by rw[e2,Array.append_assoc]⟩
 ·obtain⟨m,hn,hl⟩:=I.loc
  refine⟨m,ns m hn,λi x v e1 e2 e3=>?_⟩;obtain⟨u,r,l⟩:=hl i x v e1 e2 e3;refine⟨u,r,?_⟩;rcases l with l|⟨k,c,e,z⟩
  ·exact .inl l
  ·exact .inr ⟨k,c,e,cellK x c e _ z⟩
 ·obtain⟨v,z⟩:=I.cell x c e
  exact⟨v,cellK x c e v z⟩
 ·obtain⟨m,⟨o,_,_,ho,_⟩,_⟩:=I.loc
  exact free _ o (λz=>(hch _ z).2.1 rfl) ho I.free
 ·obtain⟨v,o,ho,hd⟩:=I.cell x c e
  exact free c o (λz=>(hch c z).2.2.1 x c e rfl) ho (I.freeC x c e)
 ·obtain⟨e,n,ne,nf,d⟩:=I.pin p hp
  have nch:p.1∉ch:=λz=>(hch p.1 z).2.2.2 p hp rfl
  exact⟨keep p.1 p.2 ne nf nch e n,free p.1 p.2 nch e n,ne,nf,d⟩
theorem Inv.un{t':Nat}(I:Inv X ζ σ H s)(u:Un X.fs [] H H' s.heap h')(hok:HOk X.prog X.w H' h'):Inv X ζ σ H' {s with heap:=h',toks:=t'}:=by
 obtain⟨m,⟨o,es,ep,ho,r⟩,_⟩:=id I.loc;obtain⟨sl,hL⟩:=u.any ho I.free (!2);exact I.step (g':=s.gens) (d':=s.drawn) (ch:=[]) (λ_ z=>nomatch z) (λb o _ hb _ e n=>u.keep b o e n hb (!2)) (λb o _ hb _ e n=>u.slot b o e n hb (!2)) (λb o _ e n=>u.free b o e n (!2)) (λb o _ e=>u.there b o e (!2)) u.tups u.frzs u.tbls (λm' hm=>by
  obtain⟨o',es',ep',ho',r'⟩:=hm;rw[ho]at ho';cases ho';exact⟨_,es',ep',hL,r'⟩) hok I.bare
theorem Inv.call{g':Array GenState}{t':Nat}{d':Drawn}{ch:List Addr}(I:Inv X ζ σ H s)(u:Un (N6 X.stack) ch H H' s.heap h')(hok:HOk X.prog X.w H' h')(hg:AllBare g')
  (hch:∀b∈ch,(b∈X.ex∨X.s₀.heap.objs.size<=b)/\b≠X.env.locals/\(∀x c,X.env.cells.lookup x=some c->c≠b)/\∀p∈X.pn++ζ,p.1≠b):
  Inv X ζ σ H' {s with heap:=h',gens:=g',drawn:=d',toks:=t'}:=by
 obtain⟨m,⟨o,es,ep,ho,r⟩,_⟩:=id I.loc;obtain⟨sl,hL⟩:=u.any ho I.free λz=>(hch _ z).2.1 rfl
 exact I.step (ch:=ch) hch (λb o hL hb hc e n=>u.keep b o e n (λz=>(mem_cons.mp (I.stkSub b z)).elim hL hb) hc) (λb o _ _ hc e n=>u.any e n hc) (λb o hc e n=>u.free b o e n hc) (λb o hc e=>u.there b o e hc) u.tups u.frzs u.tbls (λm' hm=>by
  obtain⟨o',es',ep',ho',r'⟩:=hm;rw[ho]at ho';cases ho';exact⟨_,es',ep',hL,r'⟩) hok hg
theorem Inv.turned{t':Nat}{it:Addr}(I:Inv X ζ σ H s)(k:∀b o,b≠it->s.heap.get? b=some o->h'.get? b=some o)(hn:H it=none)(hL:it≠X.env.locals)
  (h1:it∈X.ex∨X.s₀.heap.objs.size<=it) (h2:∀x c,X.env.cells.lookup x=some c->c≠it) (h3:∀p∈X.pn++ζ,p.1≠it):Inv X ζ σ H {s with heap:=h',toks:=t'}:=by
 have nit:∀b u,H b=some u->b≠it:=λb u e z=>by rw[z,hn]at e;cases e
 refine I.step (g':=s.gens) (d':=s.drawn) (ch:=[it]) (λb hb=>?_) (λb o _ _ hc e _=>k b o (λz=>hc (by simp[z])) e) (λb o _ _ hc e _=>⟨o.slots,k b o (λz=>hc (by simp[z])) e⟩) (λ_ _ _ _ n=>n)
  (λb o hc e=>⟨o,k b o (λz=>hc (by simp[z])) e⟩) (λ_ _ e=>e) (λ_ _ _ e=>e) (λb ps e=>⟨#[],by rw[e];simp⟩) (λm hm=>?_) (λb u e=>?_) I.bare
 ·have e:b=it:=by simpa using hb
  subst e;exact⟨h1,hL,h2,h3⟩
 ·obtain⟨o,es,ep,ho,r⟩:=hm
  exact⟨o,es,ep,k _ o (Ne.symm hL) ho,r⟩
 ·refine(I.hok b u e).stay (λc v hc q=>k c v ?_ q) (λ_ q=>q) λ_ _ q=>q
  rcases hc with z|z
  ·rw[z];exact nit b u e
  ·exact nit c _ z
theorem Inv.tok(I:Inv X ζ σ H s)(t:Nat):Inv X ζ σ H {s with toks:=t}:=I.un (h':=s.heap) (t':=t) Un.refl I.hok
theorem Inv.kept{t':Nat}(I:Inv X ζ σ H s)(k:∀b u,s.heap.get? b=some u->h'.get? b=some u):Inv X ζ σ H {s with heap:=h',toks:=t'}:=I.un (Un.kept k) (I.hok.kept k)
theorem Inv.laid{a:Addr}{o:HO}{t':Nat}(I:Inv X ζ σ H s)(k:∀b u,s.heap.get? b=some u->h'.get? b=some u)(hp:s.heap.objs.size<=a)(new:ObjOk X.prog X.w (upd H a o) h' a o):
  Inv X ζ σ (upd H a o) {s with heap:=h',toks:=t'}:=I.un (Un.laid k hp (I.hok.fresh hp)) (I.hok.laid k hp new)
theorem Inv.write{x e:Addr}{o:HO}{t':Nat}(I:Inv X ζ σ H s)(mu:cO (H x))(he:e=x∨H e=some (.own x))(k:∀b u,b≠e->s.heap.get? b=some u->h'.get? b=some u)(heo:∃u,h'.get? e=some u)
  (new:ObjOk X.prog X.w (upd H x o) h' x o):Inv X ζ σ (upd H x o) {s with heap:=h',toks:=t'}:=I.un (Un.write mu he k heo) (I.hok.write mu he k heo new)
theorem Inv.weak{σ':List (Option V)}(I:Inv X ζ σ H s)(hl:σ'.length=σ.length)(w:∀(i:Nat) v,σ'[i]?=some (some v)->σ[i]?=some (some v)):Inv X ζ σ' H s:=
 ⟨I.ok,I.os,I.bare,I.base,let⟨m,hn,hl'⟩:=I.loc;⟨m,hn,λi x v e1 e2 e3=>hl' i x v e1 (w i v e2) e3⟩,I.cell,I.free,I.freeC,I.pin,I.hok,hl.trans I.len⟩
theorem Inv.pins_of{ζ':List (Addr×Obj)}(I:Inv X ζ σ H s)(h:∀p∈ζ',s.heap.get? p.1=some p.2/\H p.1=none/\p.1≠X.env.locals/\p.1∉X.fs/\∀v,p.2.data≠.cell v):Inv X ζ' σ H s:=
 ⟨I.ok,I.os,I.bare,I.base,I.loc,I.cell,I.free,I.freeC,λp hp=>(mem_append.mp hp).elim (λz=>I.pin p (mem_append_left _ z)) (h p),I.hok,I.len⟩
theorem jZ{N:List Str}(hN:N.Nodup){i j:Nat}{x:Str}(a:N[i]?=some x)(b:N[j]?=some x):i=j:=by
 obtain⟨h1,e1⟩:=List.getElem?_eq_some_iff.mp a;obtain⟨h2,e2⟩:=List.getElem?_eq_some_iff.mp b;exact(List.getElem_inj hN).mp (e1.trans e2.symm)
theorem BY{M:Model}{A:Around}{E:Value->Shared->Prop}{i:Nat}{x:Str}{v:V}{u:Value}{Q:Unit->Shared->Prop}(I:Inv X ζ σ H s)(hN:X.N.Nodup)(hi:X.N[i]?=some x)(hx:V5 X.env.scope x)(r:RelV v u)
  (h:∀s',Inv X ζ (σ.set i (some v)) H s'->(∃a,Heap.SameBut a s.heap s'.heap/\(a=X.env.locals∨X.env.cells.lookup x=some a))->Q () s') (hf:X.fn x=true∨X.env.scope.names.lookup x=some .local:=by first|exact .inl rfl|exact .inr rfl|assumption):wpAny M A (storeName X.env x u) Q E s:=by
 obtain⟨m,hn,hl⟩:=id I.loc;have hcls:(X.env.scope.kind==.class||(X.env.scope.kind==.module&&X.env.locals != X.env.globals))=false:=by rw[I.ok.kind];rfl
 have hiσ:i<σ.length:=by rw[I.len];exact(List.getElem?_eq_some_iff.mp hi).1
 have cne:=I.cne;have tracked:∀{a:Addr}{h':Heap},(∃o,s.heap.get? a=some o/\H a=none)->Heap.SameBut a s.heap h'->HOk X.prog X.w H h':=λ{a h'} ha hs b ob e=>by
  obtain⟨_,_,hfree⟩:=ha;refine(I.hok b ob e).stay (λc w' hc q=>(hs.2 c ?_).trans q) (λ_ q=>q) λ_ _ q=>q
  rintro rfl;rcases hc with rfl|hc
  ·rw[hfree]at e;cases e
  ·rw[hfree]at hc;cases hc
 rcases hx with hk|hk
 ·refine wpAny_storeName_local hk hn (λh' hn' hs=>?_) hcls
  obtain⟨oL,_,_,hoL,_⟩:=id hn;refine h _ ⟨I.ok,I.os,I.bare,⟨λb o e n hb hx=>?_,λb o e n hb hx=>?_,I.base.free,λb o e hx=>?_,I.base.tups,I.base.frzs,I.base.tbls⟩,⟨_,hn',λj y v' e1 e2 e3=>?_⟩,λy c e=>?_,I.free,I.freeC,λp hp=>?_,tracked ⟨oL,hoL,I.free⟩ hs,by simpa using I.len⟩ ⟨_,hs,.inl rfl⟩
  ·exact(hs.2 b (ne_of_lt (lt_of_lt_of_le (Heap.lt_size e) I.ok.above))).trans (I.base.keep b o e n hb hx)
  ·obtain⟨sl,e1⟩:=I.base.slot b o e n hb hx
   exact⟨sl,(hs.2 b (ne_of_lt (lt_of_lt_of_le (Heap.lt_size e) I.ok.above))).trans e1⟩
  ·obtain⟨o',e1⟩:=I.base.there b o e hx
   exact⟨o',(hs.2 b (ne_of_lt (lt_of_lt_of_le (Heap.lt_size e) I.ok.above))).trans e1⟩
  ·by_cases hj:j=i
   ·subst hj
    rw[hi]at e1;cases e1;rw[getElem?_set_self hiσ]at e2;cases e2;exact⟨u,r,.inl ⟨hk,!2⟩⟩
   ·rw[getElem?_set_ne (Ne.symm hj)]at e2
    obtain⟨u',r',q⟩:=hl j y v' e1 e2 e3;refine⟨u',r',?_⟩;rcases q with⟨k,e⟩|⟨k,c,e,z⟩
    ·refine .inl ⟨k,?_⟩
     have:y≠x:=λe=>hj (jZ hN e1 (e ▸ hi))
     simp[this,e]
    ·exact .inr ⟨k,c,e,z.sameBut hs (cne y c e)⟩
  ·obtain⟨w',z⟩:=I.cell y c e
   exact⟨w',z.sameBut hs (cne y c e)⟩
  ·obtain⟨e,n,ne,nf,d⟩:=I.pin p hp
   exact⟨(hs.2 p.1 ne).trans e,n,ne,nf,d⟩
 ·have hfn:X.fn x=true:=by
   rcases hf with z|z
   ·exact z
   ·rw[z]at hk;cases hk
  obtain⟨c,hc⟩:=I.ok.has x (.inl hk);obtain⟨w',z⟩:=I.cell x c hc;refine wpAny_storeName_cell I.ok.kind hk hc z (λh' hc' hs=>?_);obtain⟨oc,hoc,hocd⟩:=id z;refine h {s with heap:=h'} ⟨I.ok,I.os,I.bare,⟨λb o e n hb hx=>?_,λb o e n hb hx=>?_,I.base.free,λb o e hx=>?_,I.base.tups,I.base.frzs,I.base.tbls⟩,⟨m,hn.sameBut hs (Ne.symm (cne x c hc)),λj y v' e1 e2 e3=>?_⟩,λy c' e=>?_,I.free,I.freeC,λp hp=>?_,tracked ⟨oc,hoc,I.freeC x c hc⟩ hs,by simpa using I.len⟩ ⟨c,hs,.inr hc⟩
  ·exact(hs.2 b (ne_of_lt (lt_of_lt_of_le (Heap.lt_size e) (I.ok.cab x c hfn hc)))).trans (I.base.keep b o e n hb hx)
  ·obtain⟨sl,e1⟩:=I.base.slot b o e n hb hx
   exact⟨sl,(hs.2 b (ne_of_lt (lt_of_lt_of_le (Heap.lt_size e) (I.ok.cab x c hfn hc)))).trans e1⟩
  ·obtain⟨o',e1⟩:=I.base.there b o e hx
   exact⟨o',(hs.2 b (ne_of_lt (lt_of_lt_of_le (Heap.lt_size e) (I.ok.cab x c hfn hc)))).trans e1⟩
  ·by_cases hj:j=i
   ·subst hj
    rw[hi]at e1;cases e1;rw[getElem?_set_self hiσ]at e2;cases e2;exact⟨u,r,.inr ⟨.inl hk,c,hc,hc'⟩⟩
   ·rw[getElem?_set_ne (Ne.symm hj)]at e2
    obtain⟨u',r',q⟩:=hl j y v' e1 e2 e3;refine⟨u',r',?_⟩;rcases q with q|⟨k,c',e,z'⟩
    ·exact .inl q
    ·refine .inr ⟨k,c',e,z'.sameBut hs ?_⟩
     rintro rfl;exact hj (jZ hN e1 (I.ok.inj _ _ _ e hc ▸ hi))
  ·by_cases hcc:c'=c
   ·subst hcc;exact⟨_,hc'⟩
   ·obtain⟨w2,z2⟩:=I.cell y c' e
    exact⟨w2,z2.sameBut hs hcc⟩
  ·obtain⟨e,n,ne,nf,d⟩:=I.pin p hp
   refine⟨(hs.2 p.1 ?_).trans e,n,ne,nf,d⟩;intro q;rw[q,hoc]at e;have q':oc=p.2:=Option.some.inj e;exact d w' (by rw[←q'];exact hocd)
theorem fG{M:Model}{A:Around}{E:Value->Shared->Prop}{i:Nat}{x:Str}{v:V}{u:Value}{Q:Unit->Shared->Prop}(I:Inv X ζ σ H s)(hN:X.N.Nodup)(hi:X.N[i]?=some x)(hx:V5 X.env.scope x)(r:RelV v u)
  (h:∀s',Inv X ζ (σ.set i (some v)) H s'->Q () s') (hf:X.fn x=true∨X.env.scope.names.lookup x=some .local:=by first|exact .inl rfl|exact .inr rfl|assumption):wpAny M A (storeName X.env x u) Q E s:=
 BY I hN hi hx r (λs' I' _=>h s' I') hf
theorem Inv.call'{s':Shared}{ch:List Addr}(I:Inv X ζ σ H s)(ho:s'.os=s.os)(u:Un (N6 X.stack) ch H H' s.heap s'.heap)(hok:HOk X.prog X.w H' s'.heap)(hg:AllBare s'.gens)
  (hch:∀b∈ch,(b∈X.ex∨X.s₀.heap.objs.size<=b)/\b≠X.env.locals/\(∀x c,X.env.cells.lookup x=some c->c≠b)/\∀p∈X.pn++ζ,p.1≠b):Inv X ζ σ H' s':=by
 obtain⟨h',g',d',t',o'⟩:=s';have e:o'=s.os:=ho;subst e;exact I.call (g':=g') (t':=t') (d':=d') u hok hg hch
end
abbrev XK:=Value->Option Addr->Hp->Prop
abbrev St:=List (Option V)
abbrev VK:=V->Hp->Prop
abbrev TE:=St->Hp->VK->Prop
abbrev TT:=St->Hp->(Bool->Hp->Prop)->Prop
abbrev TA:=St->Hp->(List V->Hp->Prop)->Prop
structure Ends where
 nx:St->Hp->Prop
 rt:VK
 bk:St->Hp->Prop:=λ_ _=>False
 ct:St->Hp->Prop:=λ_ _=>False
abbrev TS:=Ends->St->Hp->Prop
def EP(X:Cx)(ζ:List (Addr×Obj))(σ:St)(Q:VK)(u:Value)(s':Shared):Prop:=∃v H',Inv X ζ σ H' s'/\RelV v u/\Q v H'
def TP(X:Cx)(ζ:List (Addr×Obj))(σ:St)(Q:Bool->Hp->Prop)(b:Bool)(s':Shared):Prop:=∃H',Inv X ζ σ H' s'/\Q b H'
def AP(X:Cx)(ζ:List (Addr×Obj))(σ:St)(Q:List V->Hp->Prop)(us:List Value)(s':Shared):Prop:=∃vs H',Inv X ζ σ H' s'/\Vals vs us/\Q vs H'
def SP(X:Cx)(ζ:List (Addr×Obj))(D:Ends)(f:Flow)(s':Shared):Prop:=
 match f with
 |.next=>∃σ' H',Inv X ζ σ' H' s'/\D.nx σ' H'
 |.brk=>∃σ' H',Inv X ζ σ' H' s'/\D.bk σ' H'
 |.cont=>∃σ' H',Inv X ζ σ' H' s'/\D.ct σ' H'
 |.ret u=>∃v σ' H',Inv X ζ σ' H' s'/\RelV v u/\D.rt v H'
def PE(X:Cx)(e:Expr)(t:TE):Prop:=
 ∀(ζ:List (Addr×Obj))(s:Shared)(σ:St)(H:Hp)(Q:VK),Inv X ζ σ H s->t σ H Q->wpAny (model X.prog X.w) X.A (eval e X.env) (EP X ζ σ Q) X.xe s
def PT(X:Cx)(e:Expr)(t:TT):Prop:=
 ∀(ζ:List (Addr×Obj))(s:Shared)(σ:St)(H:Hp)(Q:Bool->Hp->Prop),Inv X ζ σ H s->t σ H Q->wpAny (model X.prog X.w) X.A (isTrue e X.env (eval e X.env)) (TP X ζ σ Q) X.xe s
def PW(X:Cx)(e:Expr)(t:TT):Prop:=
 ∀(whole:Sem Value)(ζ:List (Addr×Obj))(s:Shared)(σ:St)(H:Hp)(Q:Bool->Hp->Prop),Inv X ζ σ H s->t σ H Q->wpAny (model X.prog X.w) X.A (isTrue e X.env whole) (TP X ζ σ Q) X.xe s
theorem PW.pt{X:Cx}{e:Expr}{t:TT}(h:PW X e t):PT X e t:=h _
def PA(X:Cx)(es:List Expr)(t:TA):Prop:=
 ∀(pos:Pos)(ζ:List (Addr×Obj))(s:Shared)(σ:St)(H:Hp)(Q:List V->Hp->Prop),Inv X ζ σ H s->t σ H Q->wpAny (model X.prog X.w) X.A (spliced (backTo pos (starEach es X.env))) (AP X ζ σ Q) X.xe s
def PS(X:Cx)(st:Stmt)(t:TS):Prop:=
 ∀(ζ:List (Addr×Obj))(s:Shared)(σ:St)(H:Hp)(D:Ends),Inv X ζ σ H s->t D σ H->wpAny (model X.prog X.w) X.A (exec st X.env) (SP X ζ D) X.xe s
def PSs(X:Cx)(st:List Stmt)(t:TS):Prop:=
 ∀(ζ:List (Addr×Obj))(s:Shared)(σ:St)(H:Hp)(D:Ends),Inv X ζ σ H s->t D σ H->wpAny (model X.prog X.w) X.A (execs st X.env) (SP X ζ D) X.xe s
theorem A9{α:Type}{t:Sem α}{Q Q':α->Shared->Prop}{M:Model}{A:Around}{E:Value->Shared->Prop}{s:Shared}(h:wpAny M A t Q E s)(hQ:∀a s,Q a s->Q' a s):wpAny M A t Q' E s:=wpAny_mono h hQ λ_ _ x=>x
end L2
namespace L2
open PySem PySem.Spec PyProof.Rows
section
variable{X:Cx}
def fH(i:Nat):TE:=fun σ H Q=>∃v,σ[i]?=some (some v)/\Q v H
def tC(v:V):TE:=λ_ H Q=>Q v H
theorem qV{i:Nat}{x:Str}{pos:Pos}(hN:X.N[i]?=some x)(hv:cP X.env.scope x)(hd:(x==("__debug__" : Str))=false:=by decide)(hcd:(x==("__classdict__" : Str))=false:=by decide):PE X (.Name x pos) (fH i):=by
 intro ζ s σ H Q I h;obtain⟨v,e,h⟩:=h;obtain⟨m,hn,hl⟩:=I.loc;obtain⟨u,r,l⟩:=hl i x v hN e hv;have fin:EP X ζ σ Q u s:=⟨v,H,I,r,h⟩;rcases l with⟨hk,hm⟩|⟨hk,c,hc,hcell⟩
 ·exact wpAny_Name (wpAny_loadName_local I.ok.kind hk hn hm fin) hd
 ·rcases hk with hk|hk
  ·exact wpAny_Name (wpAny_loadName_cell I.ok.kind hk hc hcell fin) hd
  ·exact wpAny_Name (wpAny_loadName_free I.ok.kind hk hc hcell fin hcd) hd
theorem BZ{i j pos}:PE X (.Constant (.int i) j pos) (tC (.int i)):=λ_ _ _ H _ I h=>wpAny_Constant_int ⟨.int i,H,I.tok _,⟨_,rfl⟩,h⟩
theorem Ca{b j pos}:PE X (.Constant (.bool b) j pos) (tC (.bl b)):=λ_ _ _ H _ I h=>Constant_bool ⟨.bl b,H,I,rfl,h⟩
theorem Cb{j pos}:PE X (.Constant .none j pos) (tC .non):=λ_ _ _ H _ I h=>Constant_none ⟨.non,H,I,rfl,h⟩
theorem qW{x j pos}:PE X (.Constant (.str x) j pos) (tC (.str x)):=λ_ _ _ H _ I h=>Calls.Constant_str ⟨.str x,H,I.tok _,⟨_,rfl⟩,h⟩
def Gl(X:Cx)(x:Str):Prop:=X.env.kindOf x=some .globalImplicit
theorem aU{E:Value->Shared->Prop}{ζ:List (Addr×Obj)}{s:Shared}{σ:St}{H:Hp}{x:Str}{u:Value}{pos:Pos}{Q:Value->Shared->Prop}(I:Inv X ζ σ H s)(hg:Gl X x)(hm:X.mg x=some u)(h:Q u s)
  (hd:(x==("__debug__" : Str))=false:=by decide):wpAny (model X.prog X.w) X.A (eval (.Name x pos) X.env) Q E s:=
 Calls.Name_function_global I.ok.kind hg (Calls.loadGlobal_global (by rw[I.ok.glob];exact I.mod.glob.keeps I.bk) hm h) hd
theorem X1{E:Value->Shared->Prop}{ζ:List (Addr×Obj)}{s:Shared}{σ:St}{H:Hp}{x:Str}{u:Value}{pos:Pos}{Q:Value->Shared->Prop}(I:Inv X ζ σ H s)(hg:Gl X x)(hm:X.mg x=none)(hv:bootBuiltins x=some u)(h:Q u s)
  (hn:x≠"__name__":=by decide) (hd:(x==("__debug__" : Str))=false:=by decide):wpAny (model X.prog X.w) X.A (eval (.Name x pos) X.env) Q E s:=by
 obtain⟨mb,h1,h2⟩:=I.mod.blt;exact Calls.Name_function_global I.ok.kind hg (Calls.loadGlobal_builtin (by rw[I.ok.glob];exact I.mod.glob.keeps I.bk) hm (by rw[I.ok.blt];exact h1.keeps I.bk) ((h2 x hn).trans hv) h) hd
theorem qX{x:Str}{v:V}{u:Value}{pos:Pos}(hg:Gl X x)(hm:X.mg x=some u)(r:RelV v u)(hd:(x==("__debug__" : Str))=false:=by decide):PE X (.Name x pos) (tC v):=
 λ_ _ _ H _ I h=>aU I hg hm ⟨v,H,I,r,h⟩ hd
theorem fJ{x:Str}{v:V}{u:Value}{pos:Pos}(hg:Gl X x)(hm:X.mg x=none)(hv:bootBuiltins x=some u)(r:RelV v u)(hn:x≠"__name__":=by decide)(hd:(x==("__debug__" : Str))=false:=by decide):PE X (.Name x pos) (tC v):=
 λ_ _ _ H _ I h=>X1 I hg hm hv ⟨v,H,I,r,h⟩ hn hd
variable{a b:Expr}{ta tb:TE}{pos:Pos}
def tB(t:TE):TT:=fun σ H Q=>t σ H λx H1=>∃c,x=.bl c/\Q c H1
theorem kA{e:Expr}{t:TE}(h:PE X e t)(he:∀whole,isTrue e X.env whole=(do let v ←whole;standAt e.pos;holding [v] (truthy v)):=by intro _;rfl):PT X e (tB t):=by
 intro ζ s σ H Q I hw;refine isTrue_plain (A9 (h ζ s σ H _ I hw) λv s1 ⟨x,H1,I1,r1,q1⟩=>?_) (he _);obtain⟨d,rfl,q⟩:=q1;cases r1;exact wpAny_truthy_bool ⟨H1,I1,q⟩
variable{tA tB':TT}{E3:List Expr}
def qY(t u:TT):TT:=fun σ H Q=>t σ H λc H1=>if c=true then u σ H1 Q else Q false H1
def qZ(t u:TT):TT:=fun σ H Q=>t σ H λc H1=>if c=true then Q true H1 else u σ H1 Q
def rA(t:TT):TT:=fun σ H Q=>t σ H λc H1=>Q (!c) H1
theorem Cc(ha:PT X a tA):PW X (.BoolOp .And [a] pos) tA:=by
 intro wh ζ s σ H Q I h;refine isTrue_and (A9 (ha ζ s σ H Q I h) λc s1 e=>?_);cases c with
 |true=>exact isTrue_and_nil e
 |false=>exact e
theorem Cd(ha:PT X a tA):PW X (.BoolOp .Or [a] pos) tA:=by
 intro wh ζ s σ H Q I h;refine isTrue_or (A9 (ha ζ s σ H Q I h) λc s1 e=>?_);cases c with
 |false=>exact isTrue_or_nil e
 |true=>exact e
theorem Ce(ha:PT X a tA)(hb:PW X (.BoolOp .And (b::E3) pos) tB'):PW X (.BoolOp .And (a::b::E3) pos) (qY tA tB'):=by
 intro wh ζ s σ H Q I h;refine isTrue_and (A9 (ha ζ s σ H _ I h) λc s1 h9=>?_);obtain⟨H1,I1,q1⟩:=h9;cases c with
 |true=>exact hb wh ζ s1 σ H1 Q I1 q1
 |false=>exact⟨H1,I1,q1⟩
theorem Cf(ha:PT X a tA)(hb:PW X (.BoolOp .Or (b::E3) pos) tB'):PW X (.BoolOp .Or (a::b::E3) pos) (qZ tA tB'):=by
 intro wh ζ s σ H Q I h;refine isTrue_or (A9 (ha ζ s σ H _ I h) λc s1 h9=>?_);obtain⟨H1,I1,q1⟩:=h9;cases c with
 |true=>exact⟨H1,I1,q1⟩
 |false=>exact hb wh ζ s1 σ H1 Q I1 q1
theorem Cg(ha:PT X a tA):PT X (.UnaryOp .Not a pos) (rA tA):=by
 intro ζ s σ H Q I h;exact isTrue_not (ha ζ s σ H (λc H1=>Q (!c) H1) I h)
def rB(ta tb:TE):TE:=fun σ H Q=>ta σ H λx H1=>∃c,x=.bl c/\if c=true then tb σ H1 Q else Q (.bl false) H1
theorem Ch{op}{t:TE}(h:PE X a t):PE X (.BoolOp op [a] pos) t:=fun ζ s σ H Q I hw=>BoolOp_one (h ζ s σ H Q I hw)
theorem Ci(ha:PE X a ta)(hb:PE X (.BoolOp .And (b::E3) pos) tb):PE X (.BoolOp .And (a::b::E3) pos) (rB ta tb):=by
 intro ζ s σ H Q I h;refine BoolOp_and (A9 (ha ζ s σ H _ I h) λv s1 h9=>?_);obtain⟨x,H1,I1,r1,q1⟩:=h9;obtain⟨c,rfl,q1⟩:=q1;cases r1;refine wpAny_truthy_bool ?_;cases c with
 |true=>exact hb ζ s1 σ H1 Q I1 q1
 |false=>exact⟨.bl false,H1,I1,rfl,q1⟩
def rD(t:TT)(ta tb:TE):TE:=fun σ H Q=>t σ H λc H1=>if c=true then ta σ H1 Q else tb σ H1 Q
theorem Cj{c:Expr}(hc:PT X c tA)(ha:PE X a ta)(hb:PE X b tb):PE X (.IfExp c a b pos) (rD tA ta tb):=by
 intro ζ s σ H Q I h;refine wpAny_IfExp (A9 (hc ζ s σ H _ I h) λd s1 h9=>?_);obtain⟨H1,I1,q1⟩:=h9;cases d with
 |true=>exact ha ζ s1 σ H1 Q I1 q1
 |false=>exact hb ζ s1 σ H1 Q I1 q1
end
end L2
namespace L2
open PySem PySem.Spec PyProof.Rows
def SqL(K:Frag)(H:Hp)(a:Addr)(xs:List V):Prop:=
 Rd H a (.lst xs)∨
  ∃(o:Obj)(its:Array Value)(n:Nat),K.lookup a=some o/\o.cls=.type "list"/\o.dict=none/\o.data=.seq its n/\its.size<=sizeLine/\Vals xs its.toList
def SqT(K:Frag)(H:Hp)(a:Addr)(xs:List V):Prop:=
 Rd H a (.tup xs)∨
  ∃(o:Obj)(its:Array Value)(n:Nat),K.lookup a=some o/\o.cls=.type "tuple"/\o.data=.seq its n/\its.size<=sizeLine/\Vals xs its.toList
def Ck:Value->Option V
 |.none=>some .non
 |.bool b=>some (.bl b)
 |.int i _=>some (.int i)
 |.str x _=>some (.str x)
 |.bytes b _=>some (.byt b)
 |.float b _=>some (.flt b)
 |.ref a=>some (.ref a)
 |.type n=>some (.ty n)
 |_=>none
theorem RelV.abs{x:V}{u:Value}(r:RelV x u):Ck u=some x:=by
 cases x with
 |non=>cases r;rfl
 |bl _=>cases r;rfl
 |int _=>obtain⟨t,rfl⟩:=r;rfl
 |str _=>obtain⟨t,rfl⟩:=r;rfl
 |byt _=>obtain⟨t,rfl⟩:=r;rfl
 |flt _=>obtain⟨t,rfl⟩:=r;rfl
 |ref _=>cases r;rfl
 |ty _=>cases r;rfl
theorem RelV.inj{x y:V}{u:Value}(r:RelV x u)(q:RelV y u):x=y:=Option.some.inj (r.abs.symm.trans q.abs)
theorem Vals.inj:∀{xs ys:List V}{us:List Value},Vals xs us->Vals ys us->xs=ys
 |_,_,_,.nil,.nil=>rfl
 |_,_,_,.cons r t,.cons r' t'=>by rw[r.inj r',Vals.inj t t']
section
variable{X:Cx}{ζ:List (Addr×Obj)}{σ:St}{H:Hp}{s:Shared}{a:Addr}{xs ys:List V}
theorem SqL.of{K:Frag}(h:H a=some (.lst xs)):SqL K H a xs:=.inl (.inl h)
theorem SqT.of{K:Frag}(h:H a=some (.tup xs)):SqT K H a xs:=.inl (.inl h)
theorem Inv.list(I:Inv X ζ σ H s)(h:SqL X.K H a xs):∃its:List Value,Vals xs its/\PlainL s.heap a its.toArray/\xs.length<=sizeLine:=by
 rcases h with h|⟨o,its,n,hk,hc,hd,hs,hz,r⟩
 ·obtain⟨z,its,n,r,e⟩:=h.ok I.hok
  exact⟨its,r,⟨_,n,e,rfl,rfl,rfl⟩,z⟩
 ·refine⟨its.toList,r,⟨o,n,I.kIn a o hk,hc,hd,by simpa using hs⟩,?_⟩
  have e:=r.length;simp only[Array.length_toList]at e;omega
theorem Inv.tuple(I:Inv X ζ σ H s)(h:SqT X.K H a xs):∃its:List Value,Vals xs its/\IsTup s.heap a its.toArray/\xs.length<=sizeLine:=by
 rcases h with h|⟨o,its,n,hk,hc,hs,hz,r⟩
 ·obtain⟨z,its,r,p⟩:=h.ok I.hok
  exact⟨its,r,p,z⟩
 ·refine⟨its.toList,r,⟨o,I.kIn a o hk,hc,n,by simpa using hs⟩,?_⟩
  have e:=r.length;simp only[Array.length_toList]at e;omega
theorem Inv.list_inj(I:Inv X ζ σ H s)(h:SqL X.K H a xs)(h':SqL X.K H a ys):xs=ys:=by
 obtain⟨its,r,⟨o,n,e,_,_,d⟩,_⟩:=I.list h;obtain⟨its',r',⟨o',n',e',_,_,d'⟩,_⟩:=I.list h';rw[e]at e';cases e';rw[d]at d';injection d' with d1 _
 have:its=its':=by simpa using congrArg Array.toList d1
 subst this;exact r.inj r'
end
abbrev Cx.wish(X:Cx)(E:Value->Shared->Prop):Cx:={X with xe:=E}
abbrev Cx.nox(X:Cx):Cx:=X.wish λ_ _=>False
theorem Cx.Ok.wish{X:Cx}(ok:X.Ok)(E:Value->Shared->Prop):(X.wish E).Ok:=
 ⟨ok.mod,ok.kind,ok.glob,ok.blt,ok.above,ok.inj,ok.has,ok.cab,ok.hd,ok.frames,ok.stk,ok.exf,ok.bs,ok.bsz,ok.noex,ok.exfs,ok.funs,ok.frf⟩
theorem Cx.Ok.unwish{X:Cx}{E:Value->Shared->Prop}(ok:(X.wish E).Ok):X.Ok:=
 ⟨ok.mod,ok.kind,ok.glob,ok.blt,ok.above,ok.inj,ok.has,ok.cab,ok.hd,ok.frames,ok.stk,ok.exf,ok.bs,ok.bsz,ok.noex,ok.exfs,ok.funs,ok.frf⟩
section
variable{X:Cx}{ζ:List (Addr×Obj)}{σ:St}{H:Hp}{s:Shared}{E:Value->Shared->Prop}
theorem Inv.wish(I:Inv X ζ σ H s)(E:Value->Shared->Prop):Inv (X.wish E) ζ σ H s:=⟨I.ok.wish E,I.os,I.bare,I.base,I.loc,I.cell,I.free,I.freeC,I.pin,I.hok,I.len⟩
theorem Inv.unwish(I:Inv (X.wish E) ζ σ H s):Inv X ζ σ H s:=⟨I.ok.unwish,I.os,I.bare,I.base,I.loc,I.cell,I.free,I.freeC,I.pin,I.hok,I.len⟩
theorem SP.unwish{D:Ends}{f:Flow}{s':Shared}(h:SP (X.wish E) ζ D f s'):SP X ζ D f s':=by
 cases f with
 |next=>obtain⟨σ',H',I,q⟩:=h;exact⟨σ',H',I.unwish,q⟩
 |brk=>obtain⟨σ',H',I,q⟩:=h;exact⟨σ',H',I.unwish,q⟩
 |cont=>obtain⟨σ',H',I,q⟩:=h;exact⟨σ',H',I.unwish,q⟩
 |ret u=>obtain⟨v,σ',H',I,r,q⟩:=h;exact⟨v,σ',H',I.unwish,r,q⟩
theorem PSs.nox{st:List Stmt}{t:TS}(h:PSs X.nox st t):PSs X st t:=fun ζ s σ H D I hw=>
 wpAny_mono (h ζ s σ H D (I.wish _) hw) (λ_ _ q=>q.unwish) λ_ _ z=>False.elim z
end
section
variable{X:Cx}{st:Stmt}{E3:List Stmt}{t u:TS}{e:Expr}{te:TE}{pos:Pos}
def rE:TS:=λD σ H=>D.nx σ H
def X2(t u:TS):TS:=λD σ H=>t {D with nx:=u D} σ H
theorem fM:PSs X [] rE:=λ_ _ σ H _ I h=>wpAny_execs_nil ⟨σ,H,I,h⟩
theorem fN(h1:PS X st t)(h2:PSs X E3 u):PSs X (st::E3) (X2 t u):=by
 intro ζ s σ H D I h;refine wpAny_execs_cons (A9 (h1 ζ s σ H {D with nx:=u D} I h) λf s1 q=>?_);cases f with
 |next=>
  obtain⟨σ',H',I',q⟩:=q;exact h2 ζ s1 σ' H' D I' q
 |ret v=>exact q
 |brk=>exact q
 |cont=>exact q
theorem Z6(h1:PS X st t):PSs X [st] t:=by
 intro ζ s σ H D I h;refine wpAny_execs_cons (A9 (h1 ζ s σ H D I h) λf s1 q=>?_);cases f with
 |next=>exact wpAny_execs_nil q
 |ret v=>exact q
 |brk=>exact q
 |cont=>exact q
theorem Inv.quiet{ζ:List (Addr×Obj)}{σ:St}{H:Hp}{s:Shared}(I:Inv X ζ σ H s):interactive X.env=false:=by simp[interactive,I.ok.kind]
def rF(te:TE):TS:=λD σ H=>te σ H λ_ H1=>D.nx σ H1
theorem Cl(he:PE X e te)(hs:swapsWith e none pos.line X.env=pure false:=by rfl):PS X (.Expr e pos) (rF te):=by
 intro ζ s σ H D I h;exact wpAny_Expr_any (A9 (he ζ s σ H _ I h) λv s1 ⟨x,H1,I1,r1,q1⟩=>⟨σ,H1,I1,q1⟩) I.quiet hs
def kB(te:TE):TS:=λD σ H=>te σ H D.rt
theorem Z7(he:PE X e te):PS X (.Return (some e) pos) (kB te):=by
 intro ζ s σ H D I h;exact wpAny_Return_some (A9 (he ζ s σ H _ I h) λv s1 ⟨x,H1,I1,r1,q1⟩=>⟨x,σ,H1,I1,r1,q1⟩)
def rG(c:TT)(t u:TS):TS:=λD σ H=>c σ H λb H1=>if b=true then t D σ H1 else u D σ H1
theorem fO{c:Expr}{a b:List Stmt}{tc:TT}(hc:PT X c tc)(ha:PSs X a t)(hb:PSs X b u):PS X (.If c a b pos) (rG tc t u):=by
 intro ζ s σ H D I h;refine wpAny_If (A9 (hc ζ s σ H _ I h) λd s1 h9=>?_);obtain⟨H1,I1,q1⟩:=h9;cases d with
 |true=>exact ha ζ s1 σ H1 D I1 q1
 |false=>exact hb ζ s1 σ H1 D I1 q1
def rH:TS:=λ_ _ _=>False
theorem rJ{sts:List Stmt}:PSs X sts rH:=λ_ _ _ _ _ _ h=>h.elim
end
abbrev TG:=V->St->Hp->(St->Hp->Prop)->Prop
abbrev V6:=List V->St->Hp->(St->Hp->Prop)->Prop
def PG(X:Cx)(target:Expr)(t:TG):Prop:=
 ∀(ζ:List (Addr×Obj))(s:Shared)(σ:St)(H:Hp)(v:V)(u:Value)(Q:St->Hp->Prop),Inv X ζ σ H s->RelV v u->t v σ H Q->
  wpAny (model X.prog X.w) X.A (assign target X.env u) (λ_ s'=>∃σ' H',Inv X ζ σ' H' s'/\Q σ' H') X.xe s
def cQ(X:Cx)(ts:List Expr)(t:V6):Prop:=
 ∀(ζ:List (Addr×Obj))(s:Shared)(σ:St)(H:Hp)(vs:List V)(us:List Value)(Q:St->Hp->Prop),Inv X ζ σ H s->Vals vs us->t vs σ H Q->
  wpAny (model X.prog X.w) X.A (assignInOrder ((assignEach ts X.env).map (·.2)) us) (λ_ s'=>∃σ' H',Inv X ζ σ' H' s'/\Q σ' H') X.xe s
abbrev cR:=V->V->V->Hp->(Hp->Prop)->Prop
def PSet(X:Cx)(t:cR):Prop:=
 ∀(ζ:List (Addr×Obj))(s:Shared)(σ:St)(H:Hp)(o i v:V)(ov iv u:Value)(Q:Hp->Prop),Inv X ζ σ H s->RelV o ov->RelV i iv->RelV v u->t o i v H Q->
  wpAny (model X.prog X.w) X.A (setItem ov iv u) (λ_ s'=>∃H',Inv X ζ σ H' s'/\Q H') X.xe s
section
variable{X:Cx}{pos:Pos}
def V7(i:Nat):TG:=λv σ H Q=>Q (σ.set i (some v)) H
theorem kD{i:Nat}{x:Str}(hN:X.N.Nodup)(hi:X.N[i]?=some x)(hx:V5 X.env.scope x)(hf:X.fn x=true∨X.env.scope.names.lookup x=some .local:=by first|exact .inl rfl|exact .inr rfl|assumption):PG X (.Name x pos) (V7 i):=by
 intro ζ s σ H v u Q I r h;exact wpAny_assign_Name (fG I hN hi hx r (λs' I'=>⟨_,H,I',h⟩) hf)
def rK:V6:=λvs σ H Q=>vs=[]/\Q σ H
def rL(t:TG)(u:V6):V6:=λvs σ H Q=>∃v r,vs=v::r/\t v σ H fun σ' H'=>u r σ' H' Q
theorem Cm:cQ X [] rK:=by
 intro ζ s σ H vs us Q I r h;obtain⟨e,h⟩:=h;subst e;cases r;exact assignInOrder_nil ⟨σ,H,I,h⟩
theorem Cn{e:Expr}{es:List Expr}{t:TG}{u:V6}(h1:PG X e t)(h2:cQ X es u)
  (hs:(assignEach (e::es) X.env).map (·.2)=assign e X.env::(assignEach es X.env).map (·.2):=by rfl):cQ X (e::es) (rL t u):=by
 intro ζ s σ H vs us Q I r h;obtain⟨v,vr,e1,h⟩:=h;subst e1;cases r with
 |cons r rr=>
  rw[hs];refine assignInOrder_cons (A9 (h1 ζ s σ H _ _ _ I r h) λ_ s1 h9=>?_);obtain⟨σ1,H1,I1,q1⟩:=h9;exact h2 ζ s1 σ1 H1 _ _ Q I1 rr q1
def rM(K:Frag)(n:Nat)(t:V6):TG:=λv σ H Q=>∃a xs,v=.ref a/\SqT K H a xs/\xs.length=n/\t xs σ H Q
theorem Co{es:List Expr}{k:Nat}{t:V6}{n:Nat}(hc:X.calm=true)(h:cQ X es t)
  (hn:(assignEach es X.env).length=n:=by rfl) (hst:(assignEach es X.env).findIdx? (·.1)=none:=by rfl):PG X (.Tuple es k pos) (rM X.K n t):=by
 intro ζ s σ H v u Q I r hw;obtain⟨a,xs,e1,hq,hl,hw⟩:=hw;subst e1;cases r;obtain⟨its,rv,ht,hz⟩:=I.tuple hq;refine assign_Tuple_tuple (I.ok.hd hc) ht (by simp[hn,←hl,rv.length]) hst λh' hx=>?_
 have I1:Inv X ζ σ H {s with heap:=h'}:=I.kept (t':=s.toks) λb o e=>hx b o (ne_of_lt (Heap.lt_size e)) e
 exact h ζ _ σ H xs _ Q I1 (by simpa using rv) hw
def rN(to ti:TE)(t:cR):TG:=λv σ H Q=>to σ H λo H1=>ti σ H1 λi H2=>t o i v H2 λH3=>Q σ H3
theorem Cp{o i:Expr}{to ti:TE}{t:cR}(ho:PE X o to)(hi:PE X i ti)(hs:PSet X t)
  (ha:∀v,assign (.Subscript o i pos) X.env v=(do
   let ov ←holding [v] (eval o X.env)
   let iv ←holding [v,ov] (eval i X.env)
   standAt pos
   holding [v,ov,iv] (setItem ov iv v)
   release [v,ov,iv] []):=by intro _;rfl):PG X (.Subscript o i pos) (rN to ti t):=by
 intro ζ s σ H v u Q I r h;rw[ha];refine wpAny_bind (wpAny_holding (A9 (ho ζ s σ H _ I h) λov s1 ⟨x,H1,I1,r1,q1⟩=>?_));refine wpAny_bind (wpAny_holding (A9 (hi ζ s1 σ H1 _ I1 q1) λiv s2 ⟨y,H2,I2,r2,q2⟩=>?_));refine wpAny_bind (wpAny_standAt (wpAny_bind (wpAny_holding (A9 (hs ζ s2 σ H2 x y v ov iv u _ I2 r1 r2 r q2) λ_ s3 ⟨H3,I3,q3⟩=>?_))));exact wpAny_release ⟨σ,H3,I3,q3⟩
def Z8(te:TE)(g:TG):TS:=λD σ H=>te σ H λx H1=>g x σ H1 D.nx
theorem Cq{tg e:Expr}{te:TE}{g:TG}(he:PE X e te)(hg:PG X tg g)(hs:swapsWithSole [tg] e pos.line X.env=pure false:=by rfl)(hw:swappedStores [tg] e X.env=pure none:=by rfl)
  (h1:(assignEach [tg] X.env).map (·.2)=[assign tg X.env]:=by rfl):PS X (.Assign [tg] e pos) (Z8 te g):=by
 intro ζ s σ H D I h;refine wpAny_Assign_stores (A9 (he ζ s σ H _ I h) λv s1 ⟨x,H1,I1,r1,q1⟩=>?_) hs hw;rw[h1];exact A9 (hg ζ s1 σ H1 x v _ I1 r1 q1) λ_ s2 q=>q
theorem Cs{i:Nat}{x:Str}{e:Expr}{te:TE}{pos':Pos}(hN:X.N.Nodup)(hi:X.N[i]?=some x)(hx:V5 X.env.scope x)(he:PE X e te)(hs:swapsWith e (some (.Name x pos')) pos.line X.env=pure false:=by rfl)(hf:X.fn x=true∨X.env.scope.names.lookup x=some .local:=by first|exact .inl rfl|exact .inr rfl|assumption):
  PS X (.Assign [.Name x pos'] e pos) (Z8 te (V7 i)):=by
 intro ζ s σ H D I h;refine wpAny_Assign_Name (A9 (he ζ s σ H _ I h) λv s1 h9=>?_) hs;obtain⟨y,H1,I1,r1,q1⟩:=h9;exact fG I1 hN hi hx r1 (λs2 I2=>⟨_,H1,I2,q1⟩) hf
end
section
variable{X:Cx}{pos:Pos}
def rO(c:TT)(tb:TS):TS:=λD σ H=>∃W:Nat->St->Hp->Prop,(∃m,W m σ H)/\∀m σ H,W m σ H->
 c σ H λb H1=>if b=true then ∃N:St->Hp->Prop,(∀σ' H',N σ' H'->∃m',m'<m/\W m' σ' H')/\tb {D with nx:=N,ct:=N,bk:=D.nx} σ H1 else D.nx σ H1
theorem Ct{c:Expr}{body:List Stmt}{tc:TT}{tb:TS}(hp:PassesOwn (model X.prog X.w) X.A X.env X.xe)(hc:PT X c tc)(hb:PSs X body tb):PS X (.While c body [] pos) (rO tc tb):=by
 intro ζ s σ H D I h;obtain⟨W,⟨m0,w0⟩,turn⟩:=h;refine wpAny_While (codeAny_whileLoop (λn s'=>∃σ' H',Inv X ζ σ' H' s'/\W n σ' H') ?_ m0 ⟨σ,H,I,w0⟩);rintro n s1 ⟨σ1,H1,I1,w1⟩;refine wpAny_passesOwn hp (A9 (hc ζ s1 σ1 H1 _ I1 (turn n σ1 H1 w1)) λb s2 h9=>?_);obtain⟨H2,I2,q2⟩:=h9;cases b with
 |true=>
  obtain⟨N,hN,q2⟩:=q2;rw[if_pos rfl];refine wpAny_passesOwn hp (A9 (hb ζ s2 σ1 H2 _ I2 q2) λf s3 q3=>?_);cases f with
  |next=>
   obtain⟨σ3,H3,I3,n3⟩:=q3;obtain⟨m',hm,w3⟩:=hN σ3 H3 n3;exact⟨m',hm,σ3,H3,I3,w3⟩
  |cont=>
   obtain⟨σ3,H3,I3,n3⟩:=q3;obtain⟨m',hm,w3⟩:=hN σ3 H3 n3;exact⟨m',hm,σ3,H3,I3,w3⟩
  |brk=>exact q3
  |ret v=>exact q3
 |false=>
  rw[if_neg Bool.false_ne_true];exact wpAny_execs_nil ⟨σ1,H2,I2,q2⟩
end
structure It where
 go:Nat->Hp->Prop
 yld:Nat->Hp->V->Hp->Prop
 stop:Nat->Hp->Prop
def G6(X:Cx)(ζ:List (Addr×Obj))(H:Hp)(b:Addr):Prop:=
 H b=none/\b≠X.env.locals/\b∉X.fs/\(b∈X.ex∨X.s₀.heap.objs.size<=b)/\(∀x c,X.env.cells.lookup x=some c->c≠b)/\∀p∈X.pn++ζ,p.1≠b
theorem Inv.fpOk{X:Cx}{ζ:List (Addr×Obj)}{σ:St}{H H':Hp}{s:Shared}{b:Addr}(I:Inv X ζ σ H s)(hb:s.heap.objs.size<=b)(hn:H' b=none):G6 X ζ H' b:=by
 refine⟨hn,ne_of_gt (lt_of_lt_of_le I.lt hb),I.nofs hb,.inr (le_trans I.sz hb),λx c e z=>?_,λp hp z=>?_⟩
 ·obtain⟨v,q⟩:=I.cell x c e
  exact absurd (lt_of_lt_of_le q.lt (by rw[z];exact hb)) (lt_irrefl _)
 ·exact absurd (lt_of_lt_of_le (Heap.lt_size (I.pin p hp).1) (by rw[z];exact hb)) (lt_irrefl _)
structure Turn(P:Program)(w:World)(K:Frag)(tg:Expr)(J:It)(fp:List Addr)(it:Addr)(tn:Nat->Heap->Prop):Prop where
 mem:it∈fp
 obj:∀i h,tn i h->∀b∈fp,∃o,h.get? b=some o/\∀v,o.data≠.cell v
 keep:∀i h h',tn i h->(∀b∈fp,∀o,h.get? b=some o->h'.get? b=some o)->tn i h'
 item:∀(X:Cx),X.prog=P->X.w=w->X.K=K->X.calm=true->∀(i:Nat)(ζ:List (Addr×Obj))(s:Shared)(σ:St)(H:Hp)(E:Value->Shared->Prop),Inv X ζ σ H s->(∀b∈fp,G6 X ζ H b)->tn i s.heap->J.go i H->
  wpAny (model P w) X.A (pyNext (.ref it)) (λr s1=>∃u,r=some u/\
   wpAny (model P w) X.A (letOwnedTupleGo tg (.ref it) u) (λ_ s2=>∃x H',Inv X ζ σ H' s2/\RelV x u/\J.yld i H x H'/\tn (i+1) s2.heap/\∀b∈fp,H' b=none) E s1) E s
 done:∀(X:Cx),X.prog=P->X.w=w->X.K=K->X.calm=true->∀(i:Nat)(ζ:List (Addr×Obj))(s:Shared)(σ:St)(H:Hp)(E:Value->Shared->Prop),Inv X ζ σ H s->(∀b∈fp,G6 X ζ H b)->tn i s.heap->J.stop i H->
  wpAny (model P w) X.A (pyNext (.ref it)) (λr s1=>r=none/\Inv X ζ σ H s1) E s
 self:∀(A:Around)(i:Nat)(s:Shared)(Q:Value->Shared->Prop)(E:Value->Shared->Prop),tn i s.heap->Q (.ref it) s->wpAny (model P w) A (pyIter (.ref it)) Q E s
abbrev TI:=St->Hp->(It->Hp->Prop)->Prop
def rP(X:Cx)(ζ:List (Addr×Obj))(σ:St)(tg:Expr)(R:It->Hp->Prop)(itv:Value)(s2:Shared):Prop:=
 ∃(it:Addr)(fp:List Addr)(tn:Nat->Heap->Prop)(J:It)(H':Hp),itv=.ref it/\Inv X ζ σ H' s2/\Turn X.prog X.w X.K tg J fp it tn/\tn 0 s2.heap/\(∀b∈fp,G6 X ζ H' b)/\R J H'
def PI(X:Cx)(tg iter:Expr)(wi:TI):Prop:=
 ∀(ζ:List (Addr×Obj))(s:Shared)(σ:St)(H:Hp)(R:It->Hp->Prop),Inv X ζ σ H s->wi σ H R->
  wpAny (model X.prog X.w) X.A (eval iter X.env) (λv s1=>wpAny (model X.prog X.w) X.A (pyIter v) (rP X ζ σ tg R) X.xe s1) X.xe s
theorem kE{M:Model}{A:Around}{E:Value->Shared->Prop}{s:Shared}{tg:Expr}{it:Addr}{u:Value}{o:Obj}{n:String}{vs:Array Value}{Q:Unit->Shared->Prop}(ho:s.heap.get? it=some o)(hc:o.cls=.type n)(hd:o.data=.fields vs)
  (hn:["enumerate","zip","dict_itemiterator","dict_reverseitemiterator","odict_iterator","itertools.zip_longest","itertools.pairwise"].contains n=false) (hQ:Q () s):wpAny M A (letOwnedTupleGo tg (.ref it) u) Q E s:=by
 unfold letOwnedTupleGo;cases tg<;>first
  |exact wpAny_pure hQ
  |(cases u<;>first
    |exact wpAny_pure hQ
    |(refine wpAny_bind (wpAny_load ho ?_)
      rw[hc,hd];show wpAny M A (if(["enumerate","zip","dict_itemiterator","dict_reverseitemiterator","odict_iterator","itertools.zip_longest","itertools.pairwise"].contains n&&vs[0]?==some (rawInt _))=true then _ else _) Q E s;rw[if_neg (by intro h;rw[hn,Bool.false_and]at h;cases h)];exact wpAny_pure hQ))
def aV(K:Frag)(a:Addr):It:=
 ⟨λi H=>∃xs x,SqL K H a xs/\xs[i]?=some x,λi H x H'=>H'=H/\∀xs,SqL K H a xs->xs[i]?=some x,λi H=>∃xs,SqL K H a xs/\xs.length<=i⟩
def fP(lo:Int)(n:Nat):It:=⟨λi _=>i<n,λi H x H'=>H'=H/\x=.int (lo+i),λi _=>n<=i⟩
theorem Cu{P:Program}{w:World}{K:Frag}{tg:Expr}(a it:Addr):Turn P w K tg (aV K a) [it] it (λi h=>h.IsListIter it a i) where
 mem:=by simp
 obj:=λi h st b hb=>by
  have e:b=it:=by simpa using hb
  subst e;obtain⟨o,e,c,d⟩:=st;exact⟨o,e,λv z=>by rw[d]at z;cases z⟩
 keep:=λi h h' st k=>st.at λo e=>k it (!2) o e
 item:=by
  intro X hP hw hK hc i ζ s σ H E I hf st hg;subst hP hw hK;obtain⟨xs,x,hq,hx⟩:=hg;obtain⟨its,rv,p,hz⟩:=I.list hq;obtain⟨u,hu,ru⟩:=rv.get hx;obtain⟨f0,f1,f2,f3,f4,f5⟩:=hf it (!2);refine wpAny_pyNext_list_item st p.isList (x:=u) (by simpa using hu) λh' st' sb=>?_
  have I1:Inv X ζ σ H {s with heap:=h'}:=I.turned (t':=s.toks) (λb o hb e=>(sb.2 b hb).trans e) f0 f1 f3 f4 f5;obtain⟨o,e,c,d⟩:=id st';exact⟨u,rfl,kE (s:={s with heap:=h'}) e c d (!3) ⟨x,H,I1,ru,⟨rfl,λys hy=>by rw[I.list_inj hy hq];exact hx⟩,st',λb hb=>(hf b hb).1⟩⟩
 done:=by
  intro X hP hw hK hc i ζ s σ H E I hf st hg;subst hP hw hK;obtain⟨xs,hq,hx⟩:=hg;obtain⟨its,rv,p,hz⟩:=I.list hq;obtain⟨f0,f1,f2,f3,f4,f5⟩:=hf it (!2);have hl:=rv.length;exact wpAny_pyNext_list_end (I.ok.hd hc) st p.isList (by simp;omega) λh' eb=>⟨rfl,I.turned (t':=s.toks) (λb o hb e=>eb b o hb e) f0 f1 f3 f4 f5⟩
 self:=λ_ _ _ _ _ st h=>wpAny_pyIter_listiter st h
theorem Cv{P:Program}{w:World}{K:Frag}{tg:Expr}(it:Addr)(lo:Int)(n:Nat):Turn P w K tg (fP lo n) [it] it (λi h=>IsRangeIter h it (lo+(i:Nat)*1) ((n:Int)-(i:Nat)) 1) where
 mem:=by simp
 obj:=λi h st b hb=>by
  have e:b=it:=by simpa using hb
  subst e;exact⟨_,st,λv z=>by
   have z':Data.fields _=Data.cell v:=z;cases z'⟩
 keep:=λi h h' st k=>k it (!2) _ st
 item:=by
  intro X hP hw hK hc i ζ s σ H E I hf st hg;subst hP hw hK;obtain⟨f0,f1,f2,f3,f4,f5⟩:=hf it (!2);have W:=Walks.range (prog:=X.prog) (w:=X.w) (I.ok.hd hc) it lo 1 n;refine W.item i s _ _ hg st λv h' tk hv st' kk=>?_
  obtain⟨t,rfl⟩:=hv;have I1:Inv X ζ σ H {s with heap:=h',toks:=tk}:=I.turned (λb o hb e=>kk b o (by simpa using hb) e) f0 f1 f3 f4 f5;refine⟨_,rfl,kE (s:={s with heap:=h',toks:=tk}) (n:="range_iterator") st' rfl rfl (!3) ⟨.int (lo+i),H,I1,⟨t,?_⟩,⟨rfl,rfl⟩,st',λb hb=>(hf b hb).1⟩⟩;rw[Int.mul_one]
 done:=by
  intro X hP hw hK hc i ζ s σ H E I hf st hg;subst hP hw hK;obtain⟨f0,f1,f2,f3,f4,f5⟩:=hf it (!2);exact wpAny_pyNext_range_end (I.ok.hd hc) st (by have:n<=i:=hg;omega) λh' eb=>⟨rfl,I.turned (t':=s.toks) (λb o hb e=>eb b o hb e) f0 f1 f3 f4 f5⟩
 self:=λ_ _ _ _ _ st h=>wpAny_pyIter_rangeiter st h
end L2
namespace L2
open PySem PySem.Spec PyProof.Rows
section
variable{X:Cx}{tg:Expr}
def rQ(K:Frag)(tl:TE):TI:=fun σ H R=>tl σ H λx H1=>∃a,x=.ref a/\(∃xs,SqL K H1 a xs)/\R (aV K a) H1
theorem kH{l:Expr}{tl:TE}(hl:PE X l tl):PI X tg l (rQ X.K tl):=by
 intro ζ s σ H R I h;refine A9 (hl ζ s σ H _ I h) λv s1 ⟨x,H1,I1,r1,q1⟩=>?_
 obtain⟨a,e,⟨xs,hq⟩,q⟩:=q1;subst e;cases r1;obtain⟨its,rv,p,hz⟩:=I1.list hq;refine wpAny_pyIter_list p.isList ?_;refine⟨s1.heap.objs.size,[s1.heap.objs.size],_,_,H1,rfl,I1.kept (t':=s1.toks) λb o e=>Heap.get?_push_of_some _ e,Cu a _,⟨_,Heap.get?_push_size _ rfl,rfl,rfl⟩,λb hb=>?_,q⟩;have e:b=s1.heap.objs.size:=by simpa using hb
 subst e;exact I1.fpOk (le_refl _) (I1.hok.fresh (le_refl _))
theorem Cw{ζ:List (Addr×Obj)}{σ:St}{H:Hp}{s:Shared}{R:It->Hp->Prop}{E:Value->Shared->Prop}{lo hi:Int}{t u v:Tok}{tk:Nat}(I:Inv X ζ σ H s)(h1 : -(2^62)<=lo)(h2:lo<2^62)(h3 : -(2^62)<=hi)(h4:hi<2^62)
  (q:R (fP lo (hi-lo).toNat) H):wpAny (model X.prog X.w) X.A (pyIter (.ref s.heap.objs.size)) (rP X ζ σ tg R) E {s with heap:=s.heap.push {cls:=.type "range",data:=.fields #[.int lo t,.int hi u,.int 1 v]},toks:=tk}:=by
 refine wpAny_pyIter_range (IsRange.new ..) (small_one h1 h2 h3 h4) ?_;have I1:Inv X ζ σ H {s with heap:=s.heap.push {cls:=.type "range",data:=.fields #[.int lo t,.int hi u,.int 1 v]},toks:=tk}:=I.kept λb o e=>Heap.get?_push_of_some _ e
 refine⟨(s.heap.push {cls:=.type "range",data:=.fields #[.int lo t,.int hi u,.int 1 v]}).objs.size,[(s.heap.push {cls:=.type "range",data:=.fields #[.int lo t,.int hi u,.int 1 v]}).objs.size],_,_,H,rfl,
  I1.kept (t':=tk) λb o e=>Heap.get?_push_of_some _ e,Cv _ lo (hi-lo).toNat,?_,λb hb=>?_,q⟩
 ·have e1:lo+((0:Nat):Int)*1=lo:=by simp
  have e2:(((hi-lo).toNat:Nat):Int)-((0:Nat):Int)=Builtin.Range.rangeSize lo hi 1:=by rw[rangeSize_one];split<;>omega
  show IsRangeIter _ _ (lo+((0:Nat):Int)*1) ((((hi-lo).toNat:Nat):Int)-((0:Nat):Int)) 1;rw[e1,e2];exact Heap.get?_push_size _ rfl
 ·have e:b=(s.heap.push {cls:=.type "range",data:=.fields #[.int lo t,.int hi u,.int 1 v]}).objs.size:=by simpa using hb
  subst e;exact I1.fpOk (le_refl _) (I1.hok.fresh (le_refl _))
def rR(ta:TA):TI:=fun σ H R=>ta σ H λvs H1=>∃j:Int,vs=[.int j]/\-(2^62)<=j/\j<2^62/\R (fP 0 j.toNat) H1
theorem Cy{a:Expr}{ta:TA}{p pos:Pos}(hg:Gl X "range")(hm:X.mg "range"=none)(ha:PA X [a] ta)(hs:starEach [a] X.env=[(false,eval a X.env)]:=by rfl):PI X tg (.Call (.Name "range" p) [a] [] pos) (rR ta):=by
 intro ζ s σ H R I h;refine Call_ (X1 I hg hm boot_range (PyProof.Rows.callWith_type1 (A9 (ha pos ζ s σ H _ I h) λus s1 ⟨vs,H1,I1,r1,q1⟩=>?_) hs rfl));obtain⟨j,e,q1,q2,q⟩:=q1;subst e;cases r1 with
 |cons r rr=>
  cases rr;obtain⟨t,rfl⟩:=r;exact call_range_1 (Cw I1 (!1) (!1) q1 q2 (by simpa using q))
def rS(wi:TI)(g:TG)(tb:TS):TS:=λD σ H=>wi σ H λJ H1=>∃W:Nat->Nat->St->Hp->Prop,(∃m,W 0 m σ H1)/\∀i m σ H,W i m σ H->
 (J.stop i H/\D.nx σ H)∨(J.go i H/\∃N:St->Hp->Prop,(∀σ' H',N σ' H'->∃m',m'<m/\W (i+1) m' σ' H')/\∀x H',J.yld i H x H'->g x σ H' fun σ2 H2=>tb {D with nx:=N,ct:=N,bk:=D.nx} σ2 H2)
def fQ(fp:List Addr)(h:Heap):List (Addr×Obj):=fp.filterMap λb=>(h.get? b).map λo=>(b,o)
theorem fS{fp:List Addr}{h:Heap}{b:Addr}{o:Obj}(hb:b∈fp)(e:h.get? b=some o):(b,o)∈fQ fp h:=mem_filterMap.mpr ⟨b,hb,by rw[e];rfl⟩
theorem Cz{fp:List Addr}{h:Heap}{p:Addr×Obj}(hp:p∈fQ fp h):p.1∈fp/\h.get? p.1=some p.2:=by
 obtain⟨b,hb,e⟩:=mem_filterMap.mp hp;cases q:h.get? b with
 |none=>rw[q]at e;cases e
 |some o=>
  rw[q]at e;have e':(b,o)=p:=Option.some.inj e;subst e';exact⟨hb,q⟩
theorem Inv.pinned{ζ:List (Addr×Obj)}{σ:St}{H:Hp}{s:Shared}{fp:List Addr}(I:Inv X ζ σ H s)(hf:∀b∈fp,G6 X ζ H b)(ho:∀b∈fp,∃o,s.heap.get? b=some o/\∀v,o.data≠.cell v):Inv X (ζ++fQ fp s.heap) σ H s:=
 I.pins_of λp hp=>(mem_append.mp hp).elim (λz=>I.pin p (mem_append_right _ z)) λz=>by
  obtain⟨hb,e⟩:=Cz z;obtain⟨f0,f1,f2,_⟩:=hf p.1 hb;obtain⟨o,e',d⟩:=ho p.1 hb;rw[e]at e';cases e';exact⟨e,f0,f1,f2,d⟩
theorem Inv.unpinned{ζ pl:List (Addr×Obj)}{σ:St}{H:Hp}{s:Shared}(I:Inv X (ζ++pl) σ H s):Inv X ζ σ H s:=I.pins_of λp hp=>I.pin p (mem_append_right _ (mem_append_left _ hp))
theorem CA{iter:Expr}{body:List Stmt}{wi:TI}{g:TG}{tb:TS}{pos:Pos}(hp:PassesOwn (model X.prog X.w) X.A X.env X.xe)(hc:X.calm=true)(hi:PI X tg iter wi)(hg:PG X tg g)(hb:PSs X body tb)
  (hs:∀x,foldedSetIterable iter X.env x=pure x:=by intro _;rfl):PS X (.For tg iter body [] pos) (rS wi g tb):=by
 intro ζ s σ H D I h;refine wpAny_For (A9 (hi ζ s σ H _ I h) λv s1 h1=>A9 h1 λitv s2 h2=>?_) hs;obtain⟨it,fp,tn,J,H2,e,I2,T,st2,f2,W,⟨m0,w0⟩,turn⟩:=h2;subst e;have stat:∀{H':Hp},(∀b∈fp,H' b=none)->∀b∈fp,G6 X ζ H' b:=λhn b hb=>⟨hn b hb,(f2 b hb).2⟩
 refine codeAny_forLoop_any (λn s'=>∃i σ' H',Inv X ζ σ' H' s'/\tn i s'.heap/\(∀b∈fp,H' b=none)/\W i n σ' H') ?_ m0 ⟨0,σ,H2,I2,st2,λb hb=>(f2 b hb).1,w0⟩;rintro n s3 ⟨i,σ3,H3,I3,st3,fr3,w3⟩;rcases turn i n σ3 H3 w3 with⟨stop,qn⟩|⟨go,N,hN,step⟩
 ·refine wpAny_passesOwn hp (A9 (T.done X rfl rfl rfl hc i ζ s3 σ3 H3 X.xe I3 (stat fr3) st3 stop) λr s4 ⟨hr,I4⟩=>?_)
  subst hr;exact wpAny_execs_nil ⟨σ3,H3,I4,qn⟩
 ·refine wpAny_passesOwn hp (A9 (T.item X rfl rfl rfl hc i ζ s3 σ3 H3 X.xe I3 (stat fr3) st3 go) λr s4 ⟨u,hr,h4⟩=>?_)
  subst hr;refine wpAny_passesOwn hp (A9 h4 λ_ s5 h9=>?_);obtain⟨x,H5,I5,r5,y5,st5,fr5⟩:=h9;have I5':=I5.pinned (stat fr5) (T.obj _ _ st5);refine wpAny_passesOwn hp (A9 (hg _ s5 σ3 H5 x u _ I5' r5 (step x H5 y5)) λ_ s6 h9=>?_);obtain⟨σ6,H6,I6,q6⟩:=h9;refine wpAny_passesOwn hp (A9 (hb _ s6 σ6 H6 _ I6 q6) λf s7 q7=>?_);have again:∀{σ7:St}{H7:Hp},Inv X (ζ++fQ fp s5.heap) σ7 H7 s7->N σ7 H7->∃m,m<n/\∃i σ' H',Inv X ζ σ' H' s7/\tn i s7.heap/\(∀b∈fp,H' b=none)/\W i m σ' H':=λ{σ7 H7} I7 n7=>by
   obtain⟨m',hm,w7⟩:=hN σ7 H7 n7;refine⟨m',hm,i+1,σ7,H7,I7.unpinned,T.keep _ _ _ st5 λb hb o e=>(I7.pin (b,o) (mem_append_right _ (mem_append_right _ (fS hb e)))).1,λb hb=>?_,w7⟩;obtain⟨o,e,d⟩:=T.obj _ _ st5 b hb;exact(I7.pin (b,o) (mem_append_right _ (mem_append_right _ (fS hb e)))).2.1
  cases f with
  |next=>obtain⟨σ7,H7,I7,n7⟩:=q7;exact again I7 n7
  |cont=>obtain⟨σ7,H7,I7,n7⟩:=q7;exact again I7 n7
  |brk=>obtain⟨σ7,H7,I7,q7⟩:=q7;exact⟨σ7,H7,I7.unpinned,q7⟩
  |ret v=>obtain⟨x7,σ7,H7,I7,r7,q7⟩:=q7;exact⟨x7,σ7,H7,I7.unpinned,r7,q7⟩
end
end L2
namespace L2
open PySem PySem.Spec PyProof.Rows
abbrev R2:=V->V->Hp->VK->Prop
def OpR(X:Cx)(f:Value->Value->Sem Value)(r:R2):Prop:=
 ∀(ζ:List (Addr×Obj))(s:Shared)(σ:St)(H:Hp)(x y:V)(v u:Value)(Q:VK),Inv X ζ σ H s->RelV x v->RelV y u->r x y H Q->
  wpAny (model X.prog X.w) X.A (f v u) (EP X ζ σ Q) X.xe s
def kI(X:Cx)(f:Value->Sem Value)(r:V->Hp->VK->Prop):Prop:=
 ∀(ζ:List (Addr×Obj))(s:Shared)(σ:St)(H:Hp)(x:V)(v:Value)(Q:VK),Inv X ζ σ H s->RelV x v->r x H Q->
  wpAny (model X.prog X.w) X.A (f v) (EP X ζ σ Q) X.xe s
def CallR(X:Cx)(f:Value)(r:List V->Hp->VK->Prop):Prop:=
 ∀(ζ:List (Addr×Obj))(s:Shared)(σ:St)(H:Hp)(xs:List V)(us:List Value)(Q:VK),Inv X ζ σ H s->Vals xs us->r xs H Q->
  wpAny (model X.prog X.w) X.A (call f us) (EP X ζ σ Q) X.xe s
def CC(X:Cx)(r:V->Hp->(Bool->Hp->Prop)->Prop):Prop:=
 ∀(ζ:List (Addr×Obj))(s:Shared)(σ:St)(H:Hp)(x:V)(v:Value)(Q:Bool->Hp->Prop),Inv X ζ σ H s->RelV x v->r x H Q->
  wpAny (model X.prog X.w) X.A (truthy v) (TP X ζ σ Q) X.xe s
def T8(r:R2)(ta tb:TE):TE:=fun σ H Q=>ta σ H λx H1=>tb σ H1 λy H2=>r x y H2 Q
def rT(r:V->Hp->VK->Prop)(ta:TE):TE:=fun σ H Q=>ta σ H λx H1=>r x H1 Q
def rI(C:Int->Int->Prop)(g:Int->Int->V):R2:=λx y H Q=>∃i j,x=.int i/\y=.int j/\C i j/\Q (g i j) H
def R4(g:Int->Int->V):R2:=λx y H Q=>∃i j,x=.int i/\y=.int j/\Q (g i j) H
def rU(g:Int->V):V->Hp->VK->Prop:=λx H Q=>∃i,x=.int i/\Q (g i) H
section
variable{X:Cx}{a b c:Expr}{ta tb tc:TE}{pos:Pos}
theorem kJ(ha:PE X a ta)(hb:PE X b tb){ζ:List (Addr×Obj)}{s:Shared}{σ:St}{H:Hp}{R:V->V->Hp->Prop}(I:Inv X ζ σ H s)
  (h:ta σ H λx H1=>tb σ H1 λy H2=>R x y H2) {Q:Value->Shared->Prop} {f:Value->Value->Sem Value}
  (hf:∀v u s2 x y H2,Inv X ζ σ H2 s2->RelV x v->RelV y u->R x y H2->wpAny (model X.prog X.w) X.A (f v u) Q X.xe s2):
  wpAny (model X.prog X.w) X.A (eval a X.env) (λv s₁=>wpAny (model X.prog X.w) X.A (eval b X.env) (λu s₂=>wpAny (model X.prog X.w) X.A (f v u) Q X.xe s₂) X.xe s₁) X.xe s:=by
 refine A9 (ha ζ s σ H _ I h) λv s1 ⟨x,H1,I1,r1,q1⟩=>?_
 refine A9 (hb ζ s1 σ H1 _ I1 q1) λu s2 ⟨y,H2,I2,r2,q2⟩=>?_
 exact hf v u s2 x y H2 I2 r1 r2 q2
theorem CD{op:Operator}{r:R2}(ho:OpR X (binaryOp op) r)(ha:PE X a ta)(hb:PE X b tb):PE X (.BinOp a op b pos) (T8 r ta tb):=by
 intro ζ s σ H Q I h;exact wpAny_BinOp (kJ ha hb I h λv u s2 x y H2 I2 rx ry q=>ho ζ s2 σ H2 x y v u Q I2 rx ry q)
theorem CF{op:UnaryOp}{r:V->Hp->VK->Prop}(ho:kI X (unaryOp op) r)(ha:PE X a ta):PE X (.UnaryOp op a pos) (rT r ta):=by
 intro ζ s σ H Q I h;exact UnaryOp_ (A9 (ha ζ s σ H _ I h) λv s1 ⟨x,H1,I1,r1,q1⟩=>ho ζ s1 σ H1 x v Q I1 r1 q1)
theorem fU{f:Value->Value->Sem Value}{C:Int->Int->Prop}{g:Int->Int->Int}
  (rule:∀(i j:Int)(t u:Tok)(s:Shared)(Q:Value->Shared->Prop)(E:Value->Shared->Prop),C i j->Q (.int (g i j) s.toks) {s with toks:=s.toks+1}->wpAny (model X.prog X.w) X.A (f (.int i t) (.int j u)) Q E s):
  OpR X f (rI C λi j=>.int (g i j)):=by
 intro ζ s σ H x y v u Q I rx ry h;obtain⟨i,j,rfl,rfl,hc,q⟩:=h;obtain⟨t,rfl⟩:=rx;obtain⟨t',rfl⟩:=ry;exact rule i j t t' s _ _ hc ⟨.int (g i j),H,I.tok _,⟨_,rfl⟩,q⟩
theorem rV{f:Value->Value->Sem Value}{g:Int->Int->Int}
  (rule:∀(i j:Int)(t u:Tok)(s:Shared)(Q:Value->Shared->Prop)(E:Value->Shared->Prop),Q (.int (g i j) s.toks) {s with toks:=s.toks+1}->wpAny (model X.prog X.w) X.A (f (.int i t) (.int j u)) Q E s):
  OpR X f (R4 λi j=>.int (g i j)):=by
 intro ζ s σ H x y v u Q I rx ry h;obtain⟨i,j,rfl,rfl,q⟩:=h;obtain⟨t,rfl⟩:=rx;obtain⟨t',rfl⟩:=ry;exact rule i j t t' s _ _ ⟨.int (g i j),H,I.tok _,⟨_,rfl⟩,q⟩
theorem kK{f:Value->Value->Sem Value}{g:Int->Int->Bool}
  (rule:∀(i j:Int)(t u:Tok)(s:Shared)(Q:Value->Shared->Prop)(E:Value->Shared->Prop),Q (.bool (g i j)) s->wpAny (model X.prog X.w) X.A (f (.int i t) (.int j u)) Q E s):
  OpR X f (R4 λi j=>.bl (g i j)):=by
 intro ζ s σ H x y v u Q I rx ry h;obtain⟨i,j,rfl,rfl,q⟩:=h;obtain⟨t,rfl⟩:=rx;obtain⟨t',rfl⟩:=ry;exact rule i j t t' s _ _ ⟨.bl (g i j),H,I,rfl,q⟩
def rW(i j:Int):Prop:=0<j/\j<1073741824
def rX(i j:Int):Prop:=0<=j/\j<=1000000/\i.natAbs<2^64
def CMul(i j:Int):Prop:=(-(2^64)<i/\i<2^64)∨(-(2^64)<j/\j<2^64)
theorem CMul.ok{i j:Int}(h:CMul i j):IntMulOk i j:=by
 rcases h with⟨h1,h2⟩|⟨h1,h2⟩
 ·exact .of_left (intBits_le_64 h1 h2)
 ·exact .of_right (intBits_le_64 h1 h2)
theorem CG:OpR X (binaryOp .Add) (R4 λi j=>.int (i+j)):=rV λ_ _ _ _ _ _ _ q=>add_int q
theorem CH:OpR X (binaryOp .Sub) (R4 λi j=>.int (i-j)):=rV λ_ _ _ _ _ _ _ q=>sub_int q
theorem CI:OpR X (binaryOp .Mult) (rI CMul λi j=>.int (i*j)):=fU λ_ _ _ _ _ _ _ hc q=>mul_int q hc.ok
theorem CJ:OpR X (binaryOp .FloorDiv) (rI rW λi j=>.int (i / j)):=fU λi j _ _ _ _ _ hc q=>by
 have h1:(0:Int)<j:=hc.1;have h2:j<1073741824:=hc.2;exact floordiv_int (!1) (by rw[Int.fdiv_eq_ediv_of_nonneg i (!1)];exact q) (.inl (PyProof.noPylong_small (!1)))
theorem CK:OpR X (binaryOp .Mod) (rI (λ_ j=>0<j) λi j=>.int (i % j)):=fU λi j _ _ _ _ _ hc q=>by
 have h1:(0:Int)<j:=hc;exact mod_int' (!1) (by rw[Int.fmod_eq_emod_of_nonneg i (!1)];exact q)
theorem CM:OpR X (binaryOp .Pow) (rI rX λi j=>.int (i^j.toNat)):=fU λ_ _ _ _ _ _ _ hc q=>pow_int_small hc.1 hc.2.1 hc.2.2 q
theorem CO{f:Value->Sem Value}{g:Int->Int}
  (rule:∀(i:Int)(t:Tok)(s:Shared)(Q:Value->Shared->Prop)(E:Value->Shared->Prop),Q (.int (g i) s.toks) {s with toks:=s.toks+1}->wpAny (model X.prog X.w) X.A (f (.int i t)) Q E s):
  kI X f (rU λi=>.int (g i)):=by
 intro ζ s σ H x v Q I rx h;obtain⟨i,rfl,q⟩:=h;obtain⟨t,rfl⟩:=rx;exact rule i t s _ _ ⟨.int (g i),H,I.tok _,⟨_,rfl⟩,q⟩
theorem CP:kI X (unaryOp .USub) (rU λi=>.int (-i)):=CO λ_ _ _ _ _ q=>neg_int q
end
def kM:V->V->Bool
 |.non,.non=>true|.non,.int _=>true|.int _,.non=>true|.non,.bl _=>true|.bl _,.non=>true|.non,.str _=>true|.str _,.non=>true
 |.int _,.int _=>true|.bl _,.bl _=>true|.str _,.str _=>true|.byt _,.byt _=>true
 |.int _,.str _=>true|.str _,.int _=>true|.bl _,.str _=>true|.str _,.bl _=>true
 |_,_=>false
def rY:R2:=λx y H Q=>kM x y=true/\Q (.bl (decide (x=y))) H
def rZ:R2:=λx y H Q=>kM x y=true/\Q (.bl (!decide (x=y))) H
theorem sA{i j:Int}:decide (V.int i=V.int j)=(i==j):=by
 rw[Bool.eq_iff_iff];simp
theorem sB{i j:Bool}:decide (V.bl i=V.bl j)=(i==j):=by
 rw[Bool.eq_iff_iff];simp
theorem sC{i j:Str}:decide (V.str i=V.str j)=(i==j):=by
 rw[Bool.eq_iff_iff];simp
theorem sD{i j:Array UInt8}:decide (V.byt i=V.byt j)=(i.toList==j.toList):=by
 rw[Bool.eq_iff_iff];cases i;cases j;simp
section
variable{X:Cx}{a b c:Expr}{ta tb tc:TE}{pos:Pos}
theorem F5{ζ:List (Addr×Obj)}{σ:St}{H:Hp}{s:Shared}{Q:VK}{k k':Bool}(I:Inv X ζ σ H s)(q:Q (.bl k) H)(e:k=k'):EP X ζ σ Q (.bool k') s:=by
 subst e;exact⟨.bl k,H,I,rfl,q⟩
theorem CQ:OpR X (compareOp .Eq) rY:=by
 intro ζ s σ H x y v u Q I rx ry h;obtain⟨hs,q⟩:=h;cases x with
 |non=>
  cases rx;cases y with
  |non=>cases ry;exact PySem.EqNone.eq_none_none (F5 I q (!2))
  |bl j=>cases ry;exact PySem.EqNone.eq_none_bool (F5 I q (!2))
  |int j=>obtain⟨t',rfl⟩:=ry;exact PySem.EqNone.eq_none_int (F5 I q (!2))
  |str j=>obtain⟨t',rfl⟩:=ry;exact PySem.EqNone.eq_none_str (F5 I q (!2))
  |_=>exact absurd (show false=true from hs) Bool.false_ne_true
 |bl i=>
  cases rx;cases y with
  |non=>cases ry;exact PySem.EqNone.eq_bool_none (F5 I q (!2))
  |bl j=>cases ry;exact eq_bool (F5 I q sB)
  |str j=>obtain⟨t',rfl⟩:=ry;exact PySem.EqMixed.eq_bool_str (F5 I q (!2))
  |_=>exact absurd (show false=true from hs) Bool.false_ne_true
 |int i=>
  obtain⟨t,rfl⟩:=rx;cases y with
  |non=>cases ry;exact PySem.EqNone.eq_int_none (F5 I q (!2))
  |int j=>obtain⟨t',rfl⟩:=ry;exact eq_int (F5 I q sA)
  |str j=>obtain⟨t',rfl⟩:=ry;exact PySem.EqMixed.eq_int_str (F5 I q (!2))
  |_=>exact absurd (show false=true from hs) Bool.false_ne_true
 |str i=>
  obtain⟨t,rfl⟩:=rx;cases y with
  |non=>cases ry;exact PySem.EqNone.eq_str_none (F5 I q (!2))
  |bl j=>cases ry;exact PySem.EqMixed.eq_str_bool (F5 I q (!2))
  |int j=>obtain⟨t',rfl⟩:=ry;exact PySem.EqMixed.eq_str_int (F5 I q (!2))
  |str j=>obtain⟨t',rfl⟩:=ry;exact eq_str (F5 I q sC)
  |_=>exact absurd (show false=true from hs) Bool.false_ne_true
 |byt i=>
  obtain⟨t,rfl⟩:=rx;cases y with
  |byt j=>obtain⟨t',rfl⟩:=ry;exact PySem.W.eq_bytes (F5 I q sD)
  |_=>exact absurd (show false=true from hs) Bool.false_ne_true
 |_=>cases y<;>exact absurd (show false=true from hs) Bool.false_ne_true
theorem cS:OpR X (compareOp .NotEq) rZ:=by
 intro ζ s σ H x y v u Q I rx ry h;obtain⟨hs,q⟩:=h;cases x with
 |non=>
  cases rx;cases y with
  |non=>cases ry;exact PySem.EqNone.ne_none_none (F5 I q (!2))
  |bl j=>cases ry;exact PySem.EqNone.ne_none_bool (F5 I q (!2))
  |int j=>obtain⟨t',rfl⟩:=ry;exact PySem.EqNone.ne_none_int (F5 I q (!2))
  |str j=>obtain⟨t',rfl⟩:=ry;exact PySem.EqNone.ne_none_str (F5 I q (!2))
  |_=>exact absurd (show false=true from hs) Bool.false_ne_true
 |bl i=>
  cases rx;cases y with
  |non=>cases ry;exact PySem.EqNone.ne_bool_none (F5 I q (!2))
  |bl j=>cases ry;exact ne_bool (F5 I q (congrArg not sB))
  |str j=>obtain⟨t',rfl⟩:=ry;exact PySem.EqMixed.ne_bool_str (F5 I q (!2))
  |_=>exact absurd (show false=true from hs) Bool.false_ne_true
 |int i=>
  obtain⟨t,rfl⟩:=rx;cases y with
  |non=>cases ry;exact PySem.EqNone.ne_int_none (F5 I q (!2))
  |int j=>obtain⟨t',rfl⟩:=ry;exact ne_int (F5 I q (congrArg not sA))
  |str j=>obtain⟨t',rfl⟩:=ry;exact PySem.EqMixed.ne_int_str (F5 I q (!2))
  |_=>exact absurd (show false=true from hs) Bool.false_ne_true
 |str i=>
  obtain⟨t,rfl⟩:=rx;cases y with
  |non=>cases ry;exact PySem.EqNone.ne_str_none (F5 I q (!2))
  |bl j=>cases ry;exact PySem.EqMixed.ne_str_bool (F5 I q (!2))
  |int j=>obtain⟨t',rfl⟩:=ry;exact PySem.EqMixed.ne_str_int (F5 I q (!2))
  |str j=>obtain⟨t',rfl⟩:=ry;exact ne_str (F5 I q (congrArg not sC))
  |_=>exact absurd (show false=true from hs) Bool.false_ne_true
 |byt i=>
  obtain⟨t,rfl⟩:=rx;cases y with
  |byt j=>obtain⟨t',rfl⟩:=ry;exact PySem.W.ne_bytes (F5 I q (congrArg not sD))
  |_=>exact absurd (show false=true from hs) Bool.false_ne_true
 |_=>cases y<;>exact absurd (show false=true from hs) Bool.false_ne_true
theorem CS:OpR X (compareOp .Lt) (R4 λi j=>.bl (decide (i<j))):=kK λ_ _ _ _ _ _ _ q=>lt_int q
theorem CT:OpR X (compareOp .LtE) (R4 λi j=>.bl (decide (i<=j))):=kK λ_ _ _ _ _ _ _ q=>le_int q
theorem CU:OpR X (compareOp .Gt) (R4 λi j=>.bl (decide (j<i))):=kK λ_ _ _ _ _ _ _ q=>gt_int q
theorem CV:OpR X (compareOp .Is) (λx y H Q=>y=.non/\Q (.bl (decide (x=.non))) H):=by
 intro ζ s σ H x y v u Q I rx ry h;obtain⟨rfl,q⟩:=h;cases ry;refine is_none_gen (F5 I q ?_);cases x<;>first
  |(cases rx;rfl)
  |(obtain⟨t,rfl⟩:=rx;rfl)
theorem CW:OpR X (compareOp .IsNot) (λx y H Q=>y=.non/\Q (.bl (!decide (x=.non))) H):=by
 intro ζ s σ H x y v u Q I rx ry h;obtain⟨rfl,q⟩:=h;cases ry;refine isnot_none_gen (F5 I q ?_);cases x<;>first
  |(cases rx;rfl)
  |(obtain⟨t,rfl⟩:=rx;rfl)
theorem OpR.or{f:Value->Value->Sem Value}{r r':R2}(h:OpR X f r)(h':OpR X f r'):OpR X f (λx y H Q=>r x y H Q∨r' x y H Q):=by
 intro ζ s σ H x y v u Q I rx ry q;rcases q with q|q
 ·exact h ζ s σ H x y v u Q I rx ry q
 ·exact h' ζ s σ H x y v u Q I rx ry q
theorem CY{op:CmpOp}{r:R2}(ho:OpR X (compareOp op) r)(ha:PE X a ta)(hb:PE X b tb)(hm:behindInMarks op b=false):PE X (.Compare a [op] [b] pos) (T8 r ta tb):=by
 intro ζ s σ H Q I h;exact wpAny_Compare1 (kJ ha hb I h λv u s2 x y H2 I2 rx ry q=>ho ζ s2 σ H2 x y v u Q I2 rx ry q) hm
def fV(t:TE):TT:=fun σ H Q=>t σ H λx H'=>∃k,x=.bl k/\Q k H'
theorem CZ{op:CmpOp}{r:R2}(ho:OpR X (compareOp op) r)(ha:PE X a ta)(hb:PE X b tb)(hm:behindInMarks op b=false):PT X (.Compare a [op] [b] pos) (fV (T8 r ta tb)):=by
 intro ζ s σ H Q I h;refine wpAny_isTrue_Compare1 (A9 (ha ζ s σ H _ I h) λv s1 ⟨x,H1,I1,r1,q1⟩=>A9 (hb ζ s1 σ H1 _ I1 q1) λu s2 ⟨y,H2,I2,r2,q2⟩=>
  A9 (ho ζ s2 σ H2 x y v u _ I2 r1 r2 q2) λc s3 ⟨z,H3,I3,r3,k,e,q3⟩=>?_) hm
 subst e;cases r3;exact wpAny_truthy_bool ⟨H3,I3,q3⟩
def sE(r r':R2)(ta tb tc:TE):TE:=fun σ H Q=>ta σ H λx H1=>tb σ H1 λy H2=>r x y H2 λz H3=>∃k,z=.bl k/\
 (if k=true then tc σ H3 λw' H4=>r' y w' H4 Q else Q (.bl false) H3)
theorem Db{op op':CmpOp}{r r':R2}(ho:OpR X (compareOp op) r)(ho':OpR X (compareOp op') r')(ha:PE X a ta)(hb:PE X b tb)(hc:PE X c tc)
  (hm:lastMarks [op,op'] [b,c]=false:=by with_unfolding_all rfl):PT X (.Compare a [op,op'] [b,c] pos) (fV (sE r r' ta tb tc)):=by
 intro ζ s σ H Q I h;refine isTrue_chain (A9 (ha ζ s σ H _ I h) λv s1 ⟨x,H1,I1,r1,q1⟩=>test_link (A9 (hb ζ s1 σ H1 _ I1 q1) λu s2 ⟨y,H2,I2,r2,q2⟩=>
  A9 (ho ζ s2 σ H2 x y v u _ I2 r1 r2 q2) λd s3 ⟨z,H3,I3,r3,k,e,q3⟩=>?_)) hm
 subst e;cases r3;refine wpAny_truthy_bool ?_;cases k with
 |false=>
  obtain⟨k',e',q'⟩:=q3;cases e';exact ite_ff ⟨H3,I3,q'⟩
 |true=>
  refine ite_tt (test_last (A9 (hc ζ s3 σ H3 _ I3 q3) λw' s4 ⟨z',H4,I4,r4,q4⟩=>A9 (ho' ζ s4 σ H4 y z' u w' _ I4 r2 r4 q4) λd' s5 ⟨z2,H5,I5,r5,k2,e2,q5⟩=>?_));subst e2;cases r5;exact wpAny_truthy_bool ⟨H5,I5,q5⟩
def kN(K:Frag)(x:V)(H:Hp)(k:Bool):Prop:=
 match x with
 |.non=>k=false
 |.bl b=>k=b
 |.int i=>k=(i != 0)
 |.str y=>y.length<=sizeLine/\k=((y.length:Int) != 0)
 |.byt y=>y.size<=sizeLine/\k=((y.size:Int) != 0)
 |.ref p=>(∃xs,SqL K H p xs/\k=!xs.isEmpty)∨(∃xs,SqT K H p xs/\k=!xs.isEmpty)∨∃kvs,H p=some (.dK kvs)/\k=!kvs.isEmpty
 |_=>False
theorem Dc{κ:Type}{kvs:List (κ×V)}{vs:List (κ×Value)}(r:KV kvs vs):(!vs.isEmpty)=!kvs.isEmpty:=by
 cases r<;>rfl
theorem sF{xs:List V}{its:List Value}(r:Vals xs its):(!its.toArray.isEmpty)=!xs.isEmpty:=by
 cases r<;>simp
theorem aW:(sizeLine:Nat)<2^63:=by rw[sizeLine_eq];decide
theorem Dd:CC X (λx H Q=>∃k,kN X.K x H k/\Q k H):=by
 intro ζ s σ H x v Q I rx h;obtain⟨k,e,q⟩:=h;have hl:=aW;have hs:sizeLine=16777216:=sizeLine_eq;cases x with
 |non=>
  cases rx;have e':k=false:=e;subst e';exact truthy_none ⟨H,I,q⟩
 |bl b=>
  cases rx;have e':k=b:=e;subst e';exact wpAny_truthy_bool ⟨H,I,q⟩
 |int i=>
  obtain⟨t,rfl⟩:=rx;have e':k=(i != 0):=e;subst e';exact PySem.P.truthy_int ⟨H,I,q⟩
 |str y=>
  obtain⟨t,rfl⟩:=rx;obtain⟨hy,e'⟩:y.length<=sizeLine/\k=((y.length:Int) != 0):=e;subst e';exact PySem.P.truthy_str (!1) ⟨H,I.tok _,q⟩
 |byt y=>
  obtain⟨t,rfl⟩:=rx;obtain⟨hy,e'⟩:y.size<=sizeLine/\k=((y.size:Int) != 0):=e;subst e';exact PySem.W.truthy_bytes (!1) ⟨H,I.tok _,q⟩
 |ref p=>
  cases rx;have e':(∃xs,SqL X.K H p xs/\k=!xs.isEmpty)∨(∃xs,SqT X.K H p xs/\k=!xs.isEmpty)∨∃kvs,H p=some (.dK kvs)/\k=!kvs.isEmpty:=e
  rcases e' with⟨xs,hx,e'⟩|⟨xs,hx,e'⟩|⟨kvs,hx,e'⟩
  ·subst e'
   obtain⟨its,r,pl,hz⟩:=I.list hx;have hlen:=r.length;exact wpAny_truthy_list pl.isList (by simp only[size_toArray];omega) ⟨H,I.tok _,by rw[sF r];exact q⟩
  ·subst e'
   obtain⟨its,r,pl,hz⟩:=I.tuple hx;have hlen:=r.length;exact truthy_tuple pl (by simp only[size_toArray];omega) ⟨H,I.tok _,by rw[sF r];exact q⟩
  ·subst e'
   obtain⟨hz,hS,vs,r,m⟩:kvs.length<=sizeLine/\(p==sysModules)=false/\∃vs,KV kvs vs/\s.heap.DictOf (P1 X.prog X.w) p vs:=I.hok p _ hx
   have hlen:kvs.length=vs.length:=Paired.length r;exact wpAny_truthy_dict hS m (!1) ⟨H,I.tok _,by rw[Dc r];exact q⟩
 |_=>exact(show False from e).elim
theorem De(ha:PE X a ta)(he:∀whole,isTrue a X.env whole=(do let v ←whole;standAt a.pos;holding [v] (truthy v))):
  PT X a (fun σ H Q=>ta σ H λx H'=>∃k,kN X.K x H' k/\Q k H'):=by
 intro ζ s σ H Q I h;exact isTrue_plain (A9 (ha ζ s σ H _ I h) λv s1 ⟨x,H1,I1,r1,q1⟩=>Dd ζ s1 σ H1 x v Q I1 r1 q1) (he _)
theorem Df:OpR X (binaryOp .Add) (λx y H Q=>∃i j,x=.str i/\y=.str j/\i.length+j.length<=sizeLine/\Q (.str (i++j)) H):=by
 intro ζ s σ H x y v u Q I rx ry h;obtain⟨i,j,rfl,rfl,hz,q⟩:=h;obtain⟨t,rfl⟩:=rx;obtain⟨t',rfl⟩:=ry;exact add_str (λt' tk=>⟨.str (i++j),H,I.tok _,⟨_,rfl⟩,q⟩) hz
theorem K9{x:V}{us:List Value}(r:Vals [x] us):∃u,us=[u]/\RelV x u:=by
 cases r with
 |cons r1 r2=>cases r2;exact⟨_,rfl,r1⟩
theorem kO{x y:V}{us:List Value}(r:Vals [x,y] us):∃u w',us=[u,w']/\RelV x u/\RelV y w':=by
 cases r with
 |cons r1 r2=>
  cases r2 with
  |cons r3 r4=>cases r4;exact⟨_,_,rfl,r1,r3⟩
theorem Dg(hc:X.calm=true):CallR X (.builtin "max") (λxs H Q=>∃i j,xs=[.int i,.int j]/\Q (.int (if j>i then j else i)) H):=by
 intro ζ s σ H xs us Q I r h;obtain⟨i,j,rfl,q⟩:=h;obtain⟨u,w',rfl,⟨t,rfl⟩,⟨t',rfl⟩⟩:=kO r;refine max_two_ints (I.ok.hd hc) λh' tk k=>⟨_,H,I.kept k,?_,q⟩
 by_cases hj:j>i
 ·rw[if_pos hj,if_pos hj];exact⟨_,rfl⟩
 ·rw[if_neg hj,if_neg hj];exact⟨_,rfl⟩
theorem Dh:CallR X (.type "int") (λxs H Q=>(∃i,xs=[.int i]/\Q (.int i) H)∨∃k,xs=[.bl k]/\Q (.int (if k then 1 else 0)) H):=by
 intro ζ s σ H xs us Q I r h;rcases h with⟨i,rfl,q⟩|⟨k,rfl,q⟩
 ·obtain⟨u,rfl,t,rfl⟩:=K9 r
  exact call_int_int ⟨.int i,H,I,⟨_,rfl⟩,q⟩
 ·obtain⟨u,rfl,r1⟩:=K9 r
  cases r1;exact call_int_bool ⟨.int (if k then 1 else 0),H,I.tok _,⟨_,rfl⟩,q⟩
def sH(K:Frag)(x:V)(H:Hp)(n:Nat):Prop:=
 match x with
 |.str y=>y.length<=sizeLine/\n=y.length
 |.byt y=>y.size<=sizeLine/\n=y.size
 |.ref p=>(∃xs,SqL K H p xs/\n=xs.length)∨∃xs,SqT K H p xs/\n=xs.length
 |_=>False
theorem kP:CallR X (.builtin "len") (λxs H Q=>∃x n,xs=[x]/\sH X.K x H n/\Q (.int n) H):=by
 intro ζ s σ H xs us Q I r h;obtain⟨x,n,rfl,e,q⟩:=h;obtain⟨u,rfl,rx⟩:=K9 r;have hl:=aW;have hs:sizeLine=16777216:=sizeLine_eq;cases x with
 |str y=>
  obtain⟨t,rfl⟩:=rx;obtain⟨hy,e'⟩:y.length<=sizeLine/\n=y.length:=e;subst e';exact len_str (!1) ⟨.int _,H,I.tok _,⟨_,rfl⟩,q⟩
 |byt y=>
  obtain⟨t,rfl⟩:=rx;obtain⟨hy,e'⟩:y.size<=sizeLine/\n=y.size:=e;subst e';exact PySem.W.len_bytes (!1) ⟨.int _,H,I.tok _,⟨_,rfl⟩,q⟩
 |ref p=>
  cases rx;have e':(∃xs,SqL X.K H p xs/\n=xs.length)∨∃xs,SqT X.K H p xs/\n=xs.length:=e
  rcases e' with⟨xs,hx,e'⟩|⟨xs,hx,e'⟩
  ·subst e'
   obtain⟨its,r',pl,hz⟩:=I.list hx;have hlen:=r'.length;exact Calls.call_len_list pl.isList (by simp only[size_toArray];omega) ⟨.int xs.length,H,I.tok _,⟨_,by simp only[size_toArray];rw[hlen]⟩,q⟩
  ·subst e'
   obtain⟨its,r',pl,hz⟩:=I.tuple hx;have hlen:=r'.length;exact len_tuple pl (by simp only[size_toArray];omega) ⟨.int xs.length,H,I.tok _,⟨_,by simp only[size_toArray];rw[hlen]⟩,q⟩
 |_=>exact(show False from e).elim
end
end L2
namespace L2
open PySem PySem.Spec PyProof.Rows
structure ObjM(h:Heap)(x dx C:Addr)(mA:Str->Option Value):Prop where
 obj:h.get? x=some (instObj C dx)
 ns:h.Ns1 dx mA
 ne:dx≠x
theorem Di{h:Heap}{dx:Addr}{mA:Str->Option Value}(n:h.Ns1 dx mA):∃od,h.get? dx=some od/\∀name,lookIn name od=some (mA name):=by
 obtain⟨o,es,ep,ho,hd,hk,_,hm⟩:=n;refine⟨o,ho,λname=>?_⟩;have e:=hm name;unfold nsFind findBy at e;rw[←Array.find?_toList]at e;unfold lookIn;rw[hd];dsimp only;split
 ·rename_i y q
  rw[q]at e;exact congrArg some e
 ·rename_i q
  rw[q]at e;have a:es.toList.any (·.refKey)=false:=by
   rw[List.any_eq_false];intro y hy;obtain⟨z,t,hkey⟩:=hk y (Array.mem_toList_iff.mp hy);simp[DictEntry.refKey,hkey]
  have a':¬es.toList.any (·.refKey)=true:=by rw[a];exact Bool.false_ne_true
  rw[if_neg a'];exact congrArg some e
theorem ObjM.look{h:Heap}{x dx C:Addr}{mA:Str->Option Value}(I:ObjM h x dx C mA):∃od,PySem.W.InstAt h x (instObj C dx) C (some od)/\∀name,lookIn name od=some (mA name):=
 let⟨od,ho,hl⟩:=Di I.ns
 ⟨od,⟨I.obj,rfl,rfl,ho⟩,hl⟩
section
variable{prog:Program}{w:World}{A:Around}{E:Value->Shared->Prop}{s:Shared}{K:Frag}{x dx C f:Addr}{mA:Str->Option Value}{name:Str}{v:Value}
theorem Dj{expr:Bool}{Q:Value->Shared->Prop}(X:K.In s.heap)(I:ObjM s.heap x dx C mA)(hg:plainGet K C name=true)(hh:hasDictIn K C=true)
  (ha:findIn K (.ref C) name=some none) (hv:mA name=some v) (hv':handedIn v=true) (h:Q v {s with toks:=s.toks+1}):
  wpAny (model prog w) A (getAttr (.ref x) name expr) Q E s:=by
 obtain⟨od,J,hl⟩:=I.look;exact PySem.W.get_value X J (plainGet_of hg).1 (PySem.W.findObj_own hh ha rfl (by rw[hl,hv])) hv' h
theorem Dk{pl:Sem Bool}{Q:Value×List Value->Shared->Prop}(X:K.In s.heap)(I:ObjM s.heap x dx C mA)(hg:plainGet K C name=true)
  (hf:findIn K (.ref C) name=some (some (.ref f))) (ht:isFn K (.ref f)=true) (hv:mA name=none) (h:Q (.ref f,[.ref x]) s):
  wpAny (model prog w) A (getMethod (.ref x) name pl) Q E s:=by
 obtain⟨od,J,hl⟩:=I.look;exact PySem.W.method_fn X J (plainGet_of hg).1 (plainGet_of hg).2 hf (beq_iff_eq.mp ht) (by show(lookIn name od).map (·.isSome)=some false;rw[hl,hv];rfl) h
theorem Dl{ns:List Str}{Q:Unit->Shared->Prop}(X:K.In s.heap)(I:ObjM s.heap x dx C mA)
  (hs:findIn K (.ref C) "__setattr__"=some (some (.builtin "object.__setattr__"))) (hp:plainOver K C=true) (ht:takerIn K C name=some none) (hh:hasDictIn K C=true)
  (hw:PySem.Within mA ns) (hsz:ns.length<=sizeLine)
  (h:∀h',ObjM h' x dx C (λy=>if y=name then some v else mA y)->Heap.SameBut dx s.heap h'->Q () {s with heap:=h',toks:=s.toks+2}):
  wpAny (model prog w) A (setAttr (.ref x) name v) Q E s:=by
 obtain⟨od,J,hl⟩:=I.look;refine PySem.W.set_plain X J hs (PySem.W.osa_open (s:={s with toks:=s.toks+1}) (r:=none) X J hp ht λb=>?_);obtain⟨cd,hc,hd'⟩:=PySem.W.any_some hh;have hx:s.heap.get? x=some ⟨.ref C,some dx,.plain,#[]⟩:=I.obj;refine wpAny_bind (wpAny_pure (wpAny_bind (wpAny_bind (wpAny_loadPart hx (wpAny_bind (PySem.W.Looks.here (s:={s with toks:=s.toks+1}) (PySem.W.looks_clsIn X hc) ?_))))));rw[hd'];refine wpAny_pure (a:=some dx) (wpAny_bind (wpAny_pure (wpAny_bind ?_)));refine wpAny_nsSet1 (s:={s with toks:=s.toks+1}) I.ns λh' hn2 hs2=>?_
 obtain⟨oD,esD,epD,hoD,hdD,hcD⟩:=hn2.count (PySem.Within.cons name v hw);refine wpAny_bind (wpAny_lookBehind hoD (by rw[hdD];exact pastItsLine_dict (le_trans hcD (by rw[length_cons];omega))) ?_);exact wpAny_pure (h _ ⟨(hs2.2 _ (Ne.symm I.ne)).trans I.obj,hn2,I.ne⟩ hs2)
theorem Dm{R:Result->Shared->Prop}{vs:List Value}{kw:List (Str×Value)}(X:K.In s.heap)(hm:makesIn K C=true)
  (hi:findIn K (.ref C) "__init__"=some (some (.ref f))) (hf:PySem.W.typeIn K (.ref f)=some (.type "function"))
  (h:codeAny (model prog w) (A.under (.builtin "type.__call__" ⟨.ref C::vs,kw⟩)) (.call (.ref f) ⟨.ref (s.heap.objs.size+1)::vs,kw⟩) (PySem.W.InitBack (s.heap.objs.size+1) R)
   {s with heap:=(s.heap.push emptyDict).push (instObj C s.heap.objs.size)}):
  codeAny (model prog w) A (.call (.ref C) ⟨vs,kw⟩) R s:=by
 obtain⟨hh,g,d,t,os⟩:=s;exact PySem.W.make_core (PySem.W.makes_of X hm) (PySem.W.looks_findIn X hi) (λself=>PySem.W.bind_fn X self hf) (.inl rfl) h
end
def K6(f:Str)(v:V):List (Str×V)->List (Str×V)
 |[]=>[(f,v)]
 |(g,x)::r=>if g=f then(g,v)::r else(g,x)::K6 f v r
theorem sI(f g:Str)(v:V):∀fs:List (Str×V),(K6 f v fs).lookup g=if g=f then some v else fs.lookup g
 |[]=>by
  show List.lookup g [(f,v)]=_;by_cases h:g=f
  ·have hb:(g==f)=true:=beq_iff_eq.mpr h
   simp only[List.lookup,hb,if_pos h]
  ·have hb:(g==f)=false:=beq_eq_false_iff_ne.mpr h
   simp only[List.lookup,hb,if_neg h]
 |(k,x)::r=>by
  have ih:=sI f g v r;rw[show K6 f v ((k,x)::r)=(if k=f then(k,v)::r else(k,x)::K6 f v r)from rfl];by_cases hk:k=f
  ·rw[if_pos hk]
   by_cases h:g=k
   ·have hb:(g==k)=true:=beq_iff_eq.mpr h
    simp only[List.lookup,hb,if_pos (h.trans hk)]
   ·have hb:(g==k)=false:=beq_eq_false_iff_ne.mpr h
    simp only[List.lookup,hb,if_neg (λe:g=f=>h (e.trans hk.symm))]
  ·rw[if_neg hk]
   by_cases h:g=k
   ·have hb:(g==k)=true:=beq_iff_eq.mpr h
    simp only[List.lookup,hb,if_neg (λe:g=f=>hk (h.symm.trans e))]
   ·have hb:(g==k)=false:=beq_eq_false_iff_ne.mpr h
    simp only[List.lookup,hb];exact ih
theorem kQ(f:Str)(v:V):∀fs:List (Str×V),f∈(K6 f v fs).map (·.1)/\∀g,g∈fs.map (·.1)->g∈(K6 f v fs).map (·.1)
 |[]=>⟨by simp[K6],λg h=>by simp at h⟩
 |(k,x)::r=>by
  obtain⟨i1,i2⟩:=kQ f v r;rw[show K6 f v ((k,x)::r)=(if k=f then(k,v)::r else(k,x)::K6 f v r)from rfl];by_cases hk:k=f
  ·rw[if_pos hk]
   subst hk;exact⟨!2,λg h=>by simpa using h⟩
  ·rw[if_neg hk]
   refine⟨?_,λg h=>?_⟩
   ·rw[map_cons]
    exact mem_cons_of_mem _ i1
   ·rw[map_cons]at h ⊢
    rcases mem_cons.mp h with e|e
    ·exact mem_cons.mpr (.inl e)
    ·exact mem_cons_of_mem _ (i2 g e)
theorem sJ(f:Str)(v:V):∀fs:List (Str×V),(K6 f v fs).length<=fs.length+1
 |[]=>by simp[K6]
 |(k,x)::r=>by
  have ih:=sJ f v r;rw[show K6 f v ((k,x)::r)=(if k=f then(k,v)::r else(k,x)::K6 f v r)from rfl];by_cases hk:k=f
  ·rw[if_pos hk,length_cons,length_cons];omega
  ·rw[if_neg hk,length_cons,length_cons];omega
theorem RelO.some_of{v:V}{o:Option Value}(r:RelO (some v) o):∃u,o=some u/\RelV v u:=by
 cases o with
 |none=>exact(show False from r).elim
 |some u=>exact⟨u,rfl,r⟩
theorem RelO.none_of{o:Option Value}(r:RelO none o):o=none:=by
 cases o with
 |none=>rfl
 |some u=>exact(show False from r).elim
theorem Dn{v:V}{u:Value}(r:RelV v u):handedIn u=true:=by
 cases v with
 |non=>cases(show u=Value.none from r);rfl
 |bl b=>cases(show u=Value.bool b from r);rfl
 |int i=>obtain⟨t,e⟩:=(show ∃t,u=Value.int i t from r);cases e;rfl
 |str x=>obtain⟨t,e⟩:=(show ∃t,u=Value.str x t from r);cases e;rfl
 |byt b=>obtain⟨t,e⟩:=(show ∃t,u=Value.bytes b t from r);cases e;rfl
 |flt b=>obtain⟨t,e⟩:=(show ∃t,u=Value.float b t from r);cases e;rfl
 |ref a=>cases(show u=Value.ref a from r);rfl
 |ty n=>cases(show u=Value.type n from r);rfl
section
variable{P:Program}{w:World}{H H':Hp}{h h':Heap}{a C dx:Addr}{fs fs':List (Str×V)}
theorem cT(hok:HOk P w H h)(e:H a=some (.ins C dx fs)):∃mA,ObjM h a dx C mA/\(∀f,RelO (fs.lookup f) (mA f))/\PySem.Within mA (fs.map (·.1))/\fs.length<=1000/\H dx=some (.own a):=by
 obtain⟨d,z,ne,ob,mA,n,r,q⟩:=(show ObjOk P w H h a (.ins C dx fs)from hok a _ e);exact⟨mA,⟨ob,n,ne⟩,r,q,z,d⟩
end
structure Cls(K:Frag)(C:Addr):Prop where
 pg:plainGet K C Str.empty=true
 hd:hasDictIn K C=true
 po:plainOver K C=true
 sa:findIn K (.ref C) "__setattr__"=some (some (.builtin "object.__setattr__"))
theorem Cls.get{K:Frag}{C:Addr}(c:Cls K C)(f:Str):plainGet K C f=true:=c.pg
def NoAttr(K:Frag)(C:Addr)(f:Str):Prop:=findIn K (.ref C) f=some none
theorem NoAttr.taker{K:Frag}{C:Addr}{f:Str}(n:NoAttr K C f):takerIn K C f=some none:=by
 unfold takerIn;rw[show findIn K (.ref C) f=some none from n];rfl
structure Meth(K:Frag)(C:Addr)(m:Str)(f:Addr):Prop where
 at_:findIn K (.ref C) m=some (some (.ref f))
 fn:isFn K (.ref f)=true
 kp:keepIn K (.ref f)=true
section
variable{X:Cx}{ζ:List (Addr×Obj)}{σ:St}{H:Hp}{s:Shared}{a C dx:Addr}{fs:List (Str×V)}{f:Str}{v:V}{A:Around}{E:Value->Shared->Prop}
theorem sK{b:Bool}{Q:Value->Shared->Prop}(I:Inv X ζ σ H s)(e:H a=some (.ins C dx fs))(c:Cls X.K C)(n:NoAttr X.K C f)(l:fs.lookup f=some v)
  (h:∀u s',Inv X ζ σ H s'->RelV v u->Q u s'):wpAny (model X.prog X.w) A (getAttr (.ref a) f b) Q E s:=by
 obtain⟨mA,O,r,_,_,_⟩:=cT I.hok e;obtain⟨u,hu,ru⟩:=RelO.some_of (v:=v) (o:=mA f) (by rw[←l];exact r f);exact Dj I.kIn O (c.get f) c.hd n hu (Dn ru) (h u _ (I.tok _) ru)
theorem sM{m:Str}{g:Addr}{pl:Sem Bool}{Q:Value×List Value->Shared->Prop}(I:Inv X ζ σ H s)(e:H a=some (.ins C dx fs))(c:Cls X.K C)(k:Meth X.K C m g)(l:fs.lookup m=none)
  (h:Q (.ref g,[.ref a]) s):wpAny (model X.prog X.w) A (getMethod (.ref a) m pl) Q E s:=by
 obtain⟨mA,O,r,_,_,_⟩:=cT I.hok e;have hn:mA m=none:=RelO.none_of (by rw[←l];exact r m);exact Dk I.kIn O (c.get m) k.at_ k.fn hn h
theorem sN{y:V}{u:Value}{Q:Unit->Shared->Prop}(I:Inv X ζ σ H s)(e:H a=some (.ins C dx fs))(c:Cls X.K C)(n:NoAttr X.K C f)(hl:fs.length<1000)(ry:RelV y u)
  (h:∀s',Inv X ζ σ (upd H a (.ins C dx (K6 f y fs))) s'->Q () s'):wpAny (model X.prog X.w) A (setAttr (.ref a) f u) Q E s:=by
 obtain⟨mA,O,r,wi,_,ho⟩:=cT I.hok e;have hz:(fs.map (·.1)).length<=sizeLine:=by rw[length_map,sizeLine_eq];omega
 refine Dl I.kIn O c.sa c.po n.taker c.hd wi hz λh' O' sb=>h _ ?_
 have hd:∃o,h'.get? dx=some o:=let⟨o,_,_,e',_⟩:=O'.ns;⟨o,e'⟩
 refine I.write (x:=a) (e:=dx) (by rw[e];exact True.intro) (.inr ho) (λb q hb z=>(sb.2 b hb).trans z) hd ?_;refine⟨by rw[B4 O.ne];exact ho,?_,O.ne,O'.obj,_,O'.ns,λg=>?_,λg hg=>?_⟩
 ·have:=sJ f y fs;omega
 ·show RelO ((K6 f y fs).lookup g) (if g=f then some u else mA g)
  rw[sI];by_cases q:g=f
  ·rw[if_pos q,if_pos q];exact ry
  ·rw[if_neg q,if_neg q];exact r g
 ·by_cases q:g=f
  ·rw[q];exact(kQ f y fs).1
  ·refine(kQ f y fs).2 g (wi g λz=>hg ?_)
   show(if g=f then some u else mA g)=none;rw[if_neg q];exact z
theorem Inv.made(I:Inv X ζ σ H s):Inv X ζ σ (upd (upd H s.heap.objs.size (.own (s.heap.objs.size+1))) (s.heap.objs.size+1) (.ins C s.heap.objs.size []))
  {s with heap:=(s.heap.push emptyDict).push (instObj C s.heap.objs.size)}:=by
 have e1:(s.heap.push emptyDict).get? s.heap.objs.size=some emptyDict:=Heap.get?_push_size s.heap rfl;have e2:((s.heap.push emptyDict).push (instObj C s.heap.objs.size)).get? (s.heap.objs.size+1)=some (instObj C s.heap.objs.size):=by
  have:=Heap.get?_push_size (s.heap.push emptyDict) (o:=instObj C s.heap.objs.size) rfl
  rwa [Heap.size_push]at this
 have e3:(s.heap.push emptyDict).Ns s.heap.objs.size (λ_=>none):=⟨emptyDict,#[],_,e1,rfl,(λe he=>absurd he (!2)),λ_=>rfl⟩;have I1:=I.laid (a:=s.heap.objs.size) (o:=.own (s.heap.objs.size+1)) (h':=s.heap.push emptyDict) (t':=s.toks) (λb u q=>Heap.get?_push_of_some _ q) (le_refl _) ⟨_,e1⟩;refine I1.laid (a:=s.heap.objs.size+1) (o:=.ins C s.heap.objs.size []) (t':=s.toks) (λb u q=>Heap.get?_push_of_some _ q) (le_of_eq (Heap.size_push _ _)) ?_;have ne:s.heap.objs.size≠s.heap.objs.size+1:=ne_of_lt (lt_succ_self _);refine⟨by rw[B4 ne,A6],zero_le _,ne,e2,λ_=>none,(Heap.Ns1.of_empty e3).at λo q=>Heap.get?_push_of_some _ q,λ_=>True.intro,λy hy=>absurd rfl hy⟩
theorem Do{prog:Program}{w:World}{env:Env}{e:Expr}{f:Str}{pos:Pos}{s:Shared}{Q:Value->Shared->Prop}(hb:attributeBase e f env (eval e env)=eval e env)
  (h:wpAny (model prog w) A (eval e env) (λo s₁=>wpAny (model prog w) A (getAttr o f true) Q E s₁) E s):wpAny (model prog w) A (eval (.Attribute e f pos) env) Q E s:=
 Attribute_any_ h (by rw[arm_eval_Attribute,hb])
end
def sO(K:Frag)(ta:TE)(f:Str):TE:=fun σ H Q=>ta σ H λx H1=>∃a C dx fs v,x=.ref a/\H1 a=some (.ins C dx fs)/\Cls K C/\NoAttr K C f/\fs.lookup f=some v/\Q v H1
def sP(K:Frag)(ta tv:TE)(f:Str):TS:=λD σ H=>tv σ H λy H1=>ta σ H1 λx H2=>∃a C dx fs,x=.ref a/\H2 a=some (.ins C dx fs)/\Cls K C/\NoAttr K C f/\fs.length<1000/\
 D.nx σ (upd H2 a (.ins C dx (K6 f y fs)))
def kU(X:Cx)(op:Operator)(rd:V->V->Hp->VK->Prop):Prop:=
 ∀(ζ:List (Addr×Obj))(s:Shared)(σ:St)(H:Hp)(x y:V)(u v:Value)(Q:VK),Inv X ζ σ H s->RelV x u->RelV y v->rd x y H Q->wpAny (model X.prog X.w) X.A (inplaceOp op u v) (EP X ζ σ Q) X.xe s
def sQ(K:Frag)(ta tv:TE)(rd:V->V->Hp->VK->Prop)(f:Str):TS:=λD σ H=>ta σ H λx H1=>∃a C dx fs v,x=.ref a/\H1 a=some (.ins C dx fs)/\Cls K C/\NoAttr K C f/\fs.lookup f=some v/\
 tv σ H1 λy H2=>rd v y H2 λz H3=>∃dx' fs',H3 a=some (.ins C dx' fs')/\fs'.length<1000/\D.nx σ (upd H3 a (.ins C dx' (K6 f z fs')))
section
variable{X:Cx}{o e value:Expr}{f:Str}{pos pos' tpos:Pos}{ta tv:TE}
theorem Dp(he:PE X e ta)(hb:attributeBase e f X.env (eval e X.env)=eval e X.env):PE X (.Attribute e f pos) (sO X.K ta f):=by
 intro ζ s σ H Q I h;refine Do hb (A9 (he ζ s σ H _ I h) λu s1 h9=>?_);obtain⟨x,H1,I1,rx,a,C,dx,fs,v,ex,ea,c,n,l,q⟩:=h9;subst ex;obtain rfl:u=Value.ref a:=rx;exact sK I1 ea c n l λu' s2 I2 ru=>⟨v,H1,I2,ru,q⟩
theorem Dq(ha:PE X o ta)(hv:PE X value tv)(hs:swapsWith value (some (.Attribute o f pos')) pos.line X.env=pure false):PS X (.Assign [.Attribute o f pos'] value pos) (sP X.K ta tv f):=by
 intro ζ s σ H D I h;refine plainObj_wpAny_Assign_Attribute (A9 (hv ζ s σ H _ I h) λu s1 ⟨y,H1,I1,ry,q⟩=>A9 (ha ζ s1 σ H1 _ I1 q) λov s2 h9=>?_) hs;obtain⟨x,H2,I2,rx,a,C,dx,fs,ex,ea,c,n,l,q2⟩:=h9;subst ex;obtain rfl:ov=Value.ref a:=rx;exact sN I2 ea c n l ry λs3 I3=>⟨σ,_,I3,q2⟩
theorem Dr{op:Operator}{rd:V->V->Hp->VK->Prop}(ha:PE X o ta)(hv:PE X value tv)(hop:kU X op rd):PS X (.AugAssign (.Attribute o f tpos) op value pos) (sQ X.K ta tv rd f):=by
 intro ζ s σ H D I h;refine wpAny_AugAssign_AttributeAny (A9 (ha ζ s σ H _ I h) λov s1 h9=>?_);obtain⟨x,H1,I1,rx,a,C,dx,fs,v,ex,ea,c,n,l,q⟩:=h9;subst ex;obtain rfl:ov=Value.ref a:=rx;refine sK I1 ea c n l λu s2 I2 ru=>A9 (hv ζ s2 σ H1 _ I2 q) λw3 s3 ⟨y,H2,I3,ry,q3⟩=>A9 (hop ζ s3 σ H2 v y u w3 _ I3 ru ry q3) λw4 s4 ⟨z,H3,I4,rz,dx',fs',ea',l',q4⟩=>?_
 exact sN I4 ea' c n l' rz λs5 I5=>⟨σ,_,I5,q4⟩
def Ds:V->V->Hp->VK->Prop:=λx y H Q=>∃i j,x=.int i/\y=.int j/\Q (.int (i+j)) H
theorem sR:kU X .Add Ds:=by
 rintro ζ s σ H x y u v Q I rx ry ⟨i,j,rfl,rfl,q⟩;obtain⟨t,rfl⟩:=(show ∃t,u=Value.int i t from rx);obtain⟨t',rfl⟩:=(show ∃t',v=Value.int j t' from ry);exact PyProof.Rows.iadd_int ⟨.int (i+j),H,I.tok _,⟨_,rfl⟩,q⟩
end
section
variable{X:Cx}{ζ:List (Addr×Obj)}{σ:St}{H:Hp}{s:Shared}{A:Around}{E:Value->Shared->Prop}{Q:Value->Shared->Prop}{c:Value}{b:Bool}
inductive TyOf(K:Frag)(H:Hp):V->Value->Prop where
 |non:TyOf K H .non (.type "NoneType")
 |bl (x:Bool):TyOf K H (.bl x) (.type "bool")
 |int (i:Int):TyOf K H (.int i) (.type "int")
 |str (x:Str):TyOf K H (.str x) (.type "str")
 |flt (x:UInt64):TyOf K H (.flt x) (.type "float")
 |lst {a:Addr} {xs:List V} (e:H a=some (.lst xs)):TyOf K H (.ref a) (.type "list")
 |frz {a:Addr} {o:Obj} {xs:List V} (e:H a=some (.frz o (.lst xs))):TyOf K H (.ref a) (.type "list")
 |tup {a:Addr} {xs:List V} (e:H a=some (.tup xs)):TyOf K H (.ref a) (.type "tuple")
 |dK {a:Addr} {kvs:List (B1×V)} (e:H a=some (.dK kvs)):TyOf K H (.ref a) (.type "dict")
 |dT {a:Addr} {kvs:List (List B1×V)} (e:H a=some (.dT kvs)):TyOf K H (.ref a) (.type "dict")
 |ins {a C dx:Addr} {fs:List (Str×V)} (e:H a=some (.ins C dx fs)) (cl:Cls K C) (ha:findIn K (.ref C) "__class__"=some (some (.builtin "object.__class__")))
   (hn:PySem.W.specialIn K (.builtin "object.__class__") "__get__"=some (some (.builtin "getset_descriptor.__get__"))) (htk:PySem.W.takesIn K (.builtin "object.__class__")=some true)
   (hm:PySem.W.mroIn K C (.type "object")=some true):TyOf K H (.ref a) (.ref C)
theorem Du{x:V}{u t:Value}(I:Inv X ζ σ H s)(rx:RelV x u)(ty:TyOf X.K H x t)(e:kitOne X.K t c=some b)(h:∀tk,Q (.bool b) {s with toks:=tk}):
  wpAny (model X.prog X.w) A (call (.builtin "isinstance") [u,c]) Q E s:=by
 cases ty with
 |non=>cases(show u=Value.none from rx);exact kia_one kitx_none I.kIn True.intro e (λz=>nomatch z) h
 |bl y=>cases(show u=Value.bool y from rx);exact kia_one kitx_bool I.kIn True.intro e (λz=>nomatch z) h
 |int i=>obtain⟨t,q⟩:=(show ∃t,u=Value.int i t from rx);cases q;exact kia_one kitx_int I.kIn True.intro e (λz=>nomatch z) h
 |str y=>obtain⟨t,q⟩:=(show ∃t,u=Value.str y t from rx);cases q;exact kia_one kitx_str I.kIn True.intro e (λz=>nomatch z) h
 |flt y=>obtain⟨t,q⟩:=(show ∃t,u=Value.float y t from rx);cases q;exact kia_one kitx_float I.kIn True.intro e (λz=>nomatch z) h
 |@lst a xs ea=>
  cases(show u=Value.ref a from rx);obtain⟨_,_,n,_,h1⟩:=(show ObjOk X.prog X.w H s.heap a (.lst xs)from I.hok a _ ea);exact kia_one kitx_list I.kIn ⟨_,h1,rfl⟩ e (λz=>nomatch z) h
 |@frz a ob xs ea=>
  cases(show u=Value.ref a from rx);obtain⟨_,_,_,n,_,h1⟩:=(show ObjOk X.prog X.w H s.heap a (.frz ob (.lst xs))from I.hok a _ ea);exact kia_one kitx_list I.kIn ⟨_,h1,rfl⟩ e (λz=>nomatch z) h
 |@tup a xs ea=>
  cases(show u=Value.ref a from rx);obtain⟨_,_,_,p⟩:=(show ObjOk X.prog X.w H s.heap a (.tup xs)from I.hok a _ ea);obtain⟨o,h1,h2,_⟩:=p;exact kia_one kitx_tuple I.kIn ⟨o,h1,h2⟩ e (λz=>nomatch z) h
 |@dK a kvs ea=>
  cases(show u=Value.ref a from rx);obtain⟨_,_,vs,_,p⟩:=(show ObjOk X.prog X.w H s.heap a (.dK kvs)from I.hok a _ ea);obtain⟨o,es,ep,h1,h2,_⟩:=p;exact kia_one kitx_dict I.kIn ⟨o,h1,h2.1⟩ e (λz=>nomatch z) h
 |@dT a kvs ea=>
  cases(show u=Value.ref a from rx);obtain⟨_,_,xs,_,o,es,ep,h1,h2,_⟩:=(show ObjOk X.prog X.w H s.heap a (.dT kvs)from I.hok a _ ea);exact kia_one kitx_dict I.kIn ⟨o,h1,h2.1⟩ e (λz=>nomatch z) h
 |@ins a C dx fs ea cl ha hn htk hm=>
  cases(show u=Value.ref a from rx);obtain⟨mA,O,_⟩:=cT I.hok ea;obtain⟨od,J,_⟩:=O.look;exact kia_one (kitx_own (cl.get _) cl.hd ha hn htk hm) I.kIn J e (λz=>nomatch z) h
end
end L2
namespace L2
open PySem PySem.Spec PyProof.Rows
structure Room(k:Nat)(A:Around):Prop where
 hd:A.handled=none
 dp:A.depth+3*k+5<recursionLimit
 un:A.units+16*k+200<cLine
theorem Room.mono{j k:Nat}{A:Around}(r:Room k A)(h:j<=k):Room j A:=⟨r.hd,by have:=r.dp;omega,by have:=r.un;omega⟩
theorem Room.deeper{k:Nat}{A:Around}(r:Room (k+1) A)(env:Env):Room k (A.deeper env):=
 ⟨r.hd,by have:=r.dp;show A.depth+1+3*k+5<_;omega,by have:=r.un;show A.units+3+16*k+200<_;omega⟩
theorem Room.in1{k:Nat}{A:Around}(r:Room (k+1) A):Room k A.in1:=
 ⟨r.hd,by have:=r.dp;show A.depth+3*k+5<_;omega,by have:=r.un;show A.units+1+16*k+200<_;omega⟩
theorem Dv{A:Around}{C:Addr}{us:List Value}{kw:List (Str×Value)}:(A.under (.builtin "type.__call__" ⟨.ref C::us,kw⟩)).depth=A.depth+1:=by
 first|rfl|simp[Around.under,Code.weight,Code.isCreation,Code.isGuard,Code.isCaller,Code.frames,Code.isFrame,guardIds]
theorem Dw{A:Around}{C:Addr}{us:List Value}{kw:List (Str×Value)}:(A.under (.builtin "type.__call__" ⟨.ref C::us,kw⟩)).units=A.units+1:=by
 first|rfl|simp[Around.under,Code.cUnits,Code.frames,Code.isFrame]
theorem Room.make{k:Nat}{A:Around}(r:Room (k+1) A)(C:Addr)(us:List Value)(kw:List (Str×Value)):Room k (A.under (.builtin "type.__call__" ⟨.ref C::us,kw⟩)):=
 ⟨r.hd,by have:=r.dp;rw[Dv];omega,by have:=r.un;rw[Dw];omega⟩
theorem Room.depth{k:Nat}{A:Around}(r:Room k A):A.depth<recursionLimit:=by have:=r.dp;omega
theorem Room.units{k:Nat}{A:Around}(r:Room k A):A.units+64<cLine:=by have:=r.un;omega
def Z9:TA:=λ_ H Q=>Q [] H
def aX(ta:TE)(tr:TA):TA:=fun σ H Q=>ta σ H λx H1=>tr σ H1 λxs H2=>Q (x::xs) H2
section
variable{X:Cx}{e:Expr}{es:List Expr}{te:TE}{t:TA}{pos:Pos}
theorem P2:PA X [] Z9:=λ_ _ _ _ H Q I h=>Calls.spliced_nil ⟨[],H,I,.nil,h⟩
theorem L0(ha:PE X e te)(hr:PA X es t)(hs:starEach (e::es) X.env=(false,eval e X.env)::starEach es X.env:=by rfl):PA X (e::es) (aX te t):=by
 intro pos ζ s σ H Q I h;rw[hs];show wpAny _ _ (spliced ((false,eval e X.env)::backTo pos (starEach es X.env))) _ _ s;refine Calls.spliced_cons (A9 (ha ζ s σ H _ I h) λu s1 h9=>?_);obtain⟨x,H1,I1,r1,q1⟩:=h9;exact A9 (hr pos ζ s1 σ H1 _ I1 q1) λus s2 ⟨xs,H2,I2,r2,q2⟩=>⟨x::xs,H2,I2,.cons r1 r2,q2⟩
def sS(t:TA):TE:=fun σ H Q=>t σ H λxs H1=>xs.length<=sizeLine/\∀p,H1 p=none->Q (.ref p) (upd H1 p (.tup xs))
def fW(t:TA):TE:=fun σ H Q=>t σ H λxs H1=>xs.length<=sizeLine/\∀p,H1 p=none->Q (.ref p) (upd H1 p (.lst xs))
theorem cU{x1}(h:PA X es t):PE X (.Tuple es x1 pos) (sS t):=by
 intro ζ s σ H Q I hq;refine wpAny_Tuple_spliced (A9 (h pos ζ s σ H _ I hq) λus s1 ⟨xs,H1,I1,r,z,q⟩=>⟨by rw[←r.length];exact z,?_⟩);have hf:H1 s1.heap.objs.size=none:=I1.hok.fresh (le_refl _);refine⟨.ref s1.heap.objs.size,upd H1 s1.heap.objs.size (.tup xs),I1.laid (t':=s1.toks) (λb u e=>Heap.get?_push_of_some _ e) (le_refl _) ?_,rfl,q _ hf⟩;exact⟨z,us,r,⟨_,Heap.get?_push_size _ rfl,rfl,_,rfl⟩⟩
theorem sT(h:PA X es t):PE X (.List es pos) (fW t):=by
 intro ζ s σ H Q I hq;refine wpAny_List_spliced (A9 (h pos ζ s σ H _ I hq) λus s1 ⟨xs,H1,I1,r,z,q⟩=>⟨by rw[←r.length];exact z,?_⟩);have hf:H1 s1.heap.objs.size=none:=I1.hok.fresh (le_refl _);refine⟨.ref s1.heap.objs.size,upd H1 s1.heap.objs.size (.lst xs),I1.laid (t':=s1.toks) (λb u e=>Heap.get?_push_of_some _ e) (le_refl _) ?_,rfl,q _ hf⟩;exact⟨z,us,0,r,Heap.get?_push_size _ rfl⟩
end
abbrev Sp:=List V->Hp->VK->XK->Prop
abbrev Q1:=List Env->Hp->Shared->XK->Value->Shared->Prop
structure Env0(P:Program)(w:World)(K:Frag)(mg:Str->Option Value)(base:Heap)(A:Around)(outer:List Env)(s:Shared)(H:Hp):Prop where
 frames:A.frames=some outer
 mod:Mod K mg base
 bs:∀b o,base.get? b=some o->s.heap.get? b=some o/\H b=none
 bsz:base.objs.size<=s.heap.objs.size
 funs:s.heap.FunFrames base outer
 frf:∀b∈N6 outer,H b=none
 hok:HOk P w H s.heap
 bare:AllBare s.gens
def CE(outer:List Env)(P:Program)(w:World)(H:Hp)(s:Shared)(Q:VK)(u:Value)(s':Shared):Prop:=
 ∃v H',s'.os=s.os/\AllBare s'.gens/\Un (N6 outer) [] H H' s.heap s'.heap/\HOk P w H' s'.heap/\RelV v u/\Q v H'
def CR(CX:Q1)(outer:List Env)(P:Program)(w:World)(H:Hp)(s:Shared)(Q:VK)(E:XK)(r:Result)(s':Shared):Prop:=
 match r with
 |.ok (.ret u)=>CE outer P w H s Q u s'
 |.ok _=>False
 |.error e=>CX outer H s E e s'
structure FnOk(P:Program)(w:World)(K:Frag)(mg:Str->Option Value)(base:Heap)(CX:Q1)(k:Nat)(f:Addr)(fd:FuncData)(ps:List Str)(sp:Sp):Prop where
 len:∀vs H Q E,sp vs H Q E->vs.length=ps.length
 run:∀(A:Around)(outer:List Env)(s:Shared)(H:Hp)(args:Args)(us:List Value)(vs:List V)(Q:VK)(E:XK),Room k A->Env0 P w K mg base A outer s H->BindsTo s fd args (ps.zip us)->Vals vs us->sp vs H Q E->
  codeAny (model P w) A (.call (.ref f) args) (CR CX outer P w H s Q E) s
theorem Env0.make{P:Program}{w:World}{K:Frag}{mg:Str->Option Value}{base:Heap}{A:Around}{outer:List Env}{s:Shared}{H:Hp}(e:Env0 P w K mg base A outer s H)(C:Addr)(us:List Value)(kw:List (Str×Value)):
  Env0 P w K mg base (A.under (.builtin "type.__call__" ⟨.ref C::us,kw⟩)) outer s H:=⟨by first|exact e.frames|(simpa [Around.under,Code.envs,Code.isFrame,pushEnvs]using e.frames),e.mod,e.bs,e.bsz,e.funs,e.frf,e.hok,e.bare⟩
section
variable{X:Cx}{ζ:List (Addr×Obj)}{σ:St}{H:Hp}{s s':Shared}
theorem Inv.env0(I:Inv X ζ σ H s):Env0 X.prog X.w X.K X.mg X.base X.A X.stack s H:=
 ⟨I.ok.frames,I.ok.mod,I.bs,le_trans I.ok.bsz I.sz,I.stack,I.stkFree,I.hok,I.bare⟩
theorem Inv.after{Q:VK}{u:Value}(I:Inv X ζ σ H s)(h:CE X.stack X.prog X.w H s Q u s'):EP X ζ σ Q u s':=by
 obtain⟨v,H',os,bare,un,hok,r,q⟩:=h;obtain⟨hh,g,d,t,os'⟩:=s';obtain rfl:os'=s.os:=os;exact⟨v,H',I.call (h':=hh) (g':=g) (d':=d) (t':=t) (ch:=[]) un hok bare (λb z=>absurd z (!2)),r,q⟩
end
def fX(sp:Sp)(dvs:List V)(E:XK)(t:TA):TE:=fun σ H Q=>t σ H λvs H1=>sp (vs++dvs) H1 Q E
def fY(C:Addr)(m:Str)(sp:Sp)(dvs:List V)(E:XK)(ta:TE)(t:TA):TE:=fun σ H Q=>ta σ H λx H1=>∃a dx fs,x=.ref a/\H1 a=some (.ins C dx fs)/\fs.lookup m=none/\
 t σ H1 λvs H2=>sp (x::(vs++dvs)) H2 Q E
def sU(C:Addr)(sp:Sp)(dvs:List V)(E:XK)(t:TA):TE:=fun σ H Q=>t σ H λvs H1=>∀x dx,H1 x=none->H1 dx=none->dx≠x->
 sp (.ref x::(vs++dvs)) (upd (upd H1 dx (.own x)) x (.ins C dx [])) (λv H2=>v=.non/\Q (.ref x) H2) E
def Binds(K:Frag)(fd:FuncData)(ps:List Str)(ds:List Value):Prop:=
 ∀(s:Shared)(us:List Value),K.In s.heap->(us++ds).length=ps.length->BindsTo s fd ⟨us,[]⟩ (ps.zip (us++ds))
theorem Binds.all{K:Frag}{fd:FuncData}{ps:List Str}(h:∀us:List Value,us.length=ps.length->bindArgs fd ⟨us,[]⟩=pure (ps.zip us)):Binds K fd ps []:=λs us _ hl=>by
 rw[append_nil]at hl ⊢;exact .of_eq (h us hl)
def aA(CX:Q1)(X:Cx)(E:XK):Prop:=∀(ζ:List (Addr×Obj))(σ:St)(H:Hp)(s:Shared)(e:Value)(s':Shared),Inv X ζ σ H s->CX X.stack H s E e s'->X.xe e s'
section
variable{X:Cx}{CX:Q1}{k:Nat}{f C:Addr}{fd:FuncData}{ps:List Str}{sp:Sp}{dvs:List V}{ds:List Value}{E:XK}{x m:Str}{p pos apos:Pos}{e o:Expr}{es:List Expr}{ta:TE}{t:TA}
theorem fZ{ζ:List (Addr×Obj)}{σ:St}{H:Hp}{s:Shared}{Q:VK}{us:List Value}{vs:List V}(F:FnOk X.prog X.w X.K X.mg X.base CX k f fd ps sp)(hr:Room k X.A)(hb:Binds X.K fd ps ds)(hd:Vals dvs ds)(hx:aA CX X E)
  (I:Inv X ζ σ H s) (r:Vals vs us) (h:sp (vs++dvs) H Q E):wpAny (model X.prog X.w) X.A (call (.ref f) us) (EP X ζ σ Q) X.xe s:=by
 have r2:Vals (vs++dvs) (us++ds):=r.append hd;have hl:(us++ds).length=ps.length:=by rw[←r2.length];exact F.len _ _ _ _ h
 refine wpAny_call (codeAny_mono (F.run X.A X.stack s H ⟨us,[]⟩ (us++ds) (vs++dvs) Q E hr I.env0 (hb s us I.kIn hl) r2 h) λr s' hq=>?_);cases r with
 |error e=>exact hx ζ σ H s e s' I hq
 |ok fl=>
  cases fl with
  |ret u=>exact I.after hq
  |next=>exact False.elim hq
  |brk=>exact False.elim hq
  |cont=>exact False.elim hq
theorem kW(F:FnOk X.prog X.w X.K X.mg X.base CX k f fd ps sp)(hr:Room k X.A)(hg:Gl X x)(hm:X.mg x=some (.ref f))(hk:keepIn X.K (.ref f)=true)(hb:Binds X.K fd ps ds)(hd:Vals dvs ds)(hx:aA CX X E)
  (ha:PA X (e::es) t) (hdb:(x==("__debug__" : Str))=false:=by decide) (he:starEach (e::es) X.env=(false,eval e X.env)::starEach es X.env:=by rfl) (hpl:(backTo pos (starEach es X.env)).any (·.1)=false:=by rfl):
  PE X (.Call (.Name x p) (e::es) [] pos) (fX sp dvs E t):=by
 intro ζ s σ H Q I h;refine wpAny_Call_Name_kw (aU I hg hm ?_ hdb);refine callWith_K (h₀:=X.base) I.ok.mod.kin hk (A9 (ha pos ζ s σ H _ I h) λus s1 ⟨vs,H1,I1,r,q⟩=>⟨I1.kIn,?_⟩) he hpl;exact fZ F hr hb hd hx I1 r q
structure Mk(K:Frag)(C f:Addr):Prop where
 makes:makesIn K C=true
 init:findIn K (.ref C) "__init__"=some (some (.ref f))
 fn:isFn K (.ref f)=true
 kp:keepIn K (.ref C)=true
theorem Dx{ζ:List (Addr×Obj)}{σ:St}{H:Hp}{s:Shared}{Q:VK}{us:List Value}{vs:List V}(M:Mk X.K C f)(F:FnOk X.prog X.w X.K X.mg X.base CX k f fd ps sp)(hr:Room (k+1) X.A)(hb:Binds X.K fd ps ds)(hd:Vals dvs ds)
  (hx:aA CX X E) (I:Inv X ζ σ H s) (r:Vals vs us)
  (h:∀x dx,H x=none->H dx=none->dx≠x->sp (.ref x::(vs++dvs)) (upd (upd H dx (.own x)) x (.ins C dx [])) (λv H2=>v=.non/\Q (.ref x) H2) E):
  wpAny (model X.prog X.w) X.A (call (.ref C) us) (EP X ζ σ Q) X.xe s:=by
 have hq:=h (s.heap.objs.size+1) s.heap.objs.size (I.hok.fresh (le_succ _)) (I.hok.fresh (le_refl _)) (ne_of_lt (lt_succ_self _));have I2:=Inv.made (C:=C) I;have r2:Vals (V.ref (s.heap.objs.size+1)::(vs++dvs)) (Value.ref (s.heap.objs.size+1)::(us++ds)):=.cons rfl (r.append hd);have hl:(Value.ref (s.heap.objs.size+1)::us++ds).length=ps.length:=by
  have e:=r2.length;rw[F.len _ _ _ _ hq]at e;exact e.symm
 refine wpAny_call (Dm (f:=f) I.kIn M.makes M.init (beq_iff_eq.mp M.fn) (codeAny_mono (F.run _ X.stack _ _ ⟨Value.ref (s.heap.objs.size+1)::us,[]⟩ (Value.ref (s.heap.objs.size+1)::(us++ds)) _ _ E (hr.make C us [])
  (I2.env0.make C us []) (hb _ (Value.ref (s.heap.objs.size+1)::us) I2.kIn hl) r2 hq) λr s' hq'=>?_))
 cases r with
 |error e=>exact hx ζ σ _ _ e s' I2 hq'
 |ok fl=>
  cases fl with
  |ret u=>
   obtain⟨v,H',I3,rv,ev,q3⟩:=I2.after hq';subst ev;exact⟨rv,⟨V.ref (s.heap.objs.size+1),H',I3,rfl,q3⟩⟩
  |next=>exact False.elim hq'
  |brk=>exact False.elim hq'
  |cont=>exact False.elim hq'
theorem Dy(M:Mk X.K C f)(F:FnOk X.prog X.w X.K X.mg X.base CX k f fd ps sp)(hr:Room (k+1) X.A)(hg:Gl X x)(hm:X.mg x=some (.ref C))(hb:Binds X.K fd ps ds)(hd:Vals dvs ds)(hx:aA CX X E)
  (ha:PA X (e::es) t) (hdb:(x==("__debug__" : Str))=false:=by decide) (he:starEach (e::es) X.env=(false,eval e X.env)::starEach es X.env:=by rfl) (hpl:(backTo pos (starEach es X.env)).any (·.1)=false:=by rfl):
  PE X (.Call (.Name x p) (e::es) [] pos) (sU C sp dvs E t):=by
 intro ζ s σ H Q I h;refine wpAny_Call_Name_kw (aU I hg hm ?_ hdb);refine callWith_K (h₀:=X.base) I.ok.mod.kin M.kp (A9 (ha pos ζ s σ H _ I h) λus s1 ⟨vs,H1,I1,r,q⟩=>⟨I1.kIn,?_⟩) he hpl;exact Dx M F hr hb hd hx I1 r q
end
def PK(X:Cx)(kws:List Keyword)(t:TA):Prop:=
 ∀(pos:Pos)(ζ:List (Addr×Obj))(s:Shared)(σ:St)(H:Hp)(Q:List V->Hp->Prop),Inv X ζ σ H s->t σ H Q->wpAny (model X.prog X.w) X.A (evalAll ((backToKw pos (keywordEach kws X.env)).map (·.2))) (AP X ζ σ Q) X.xe s
section
variable{X:Cx}{CX:Q1}{k:Nat}{f C:Addr}{fd:FuncData}{ps ks:List Str}{sp:Sp}{E:XK}{x m:Str}{p pos apos kpos:Pos}{e o:Expr}{es:List Expr}{kws:List Keyword}{te ta:TE}{t tk:TA}{nm:Option Str}
theorem sV:PK X [] Z9:=λ_ _ _ _ H Q I h=>wpAny_evalAll_nil ⟨[],H,I,.nil,h⟩
theorem sW(ha:PE X e te)(hr:PK X kws t):PK X (⟨nm,e,kpos⟩::kws) (aX te t):=by
 intro pos ζ s σ H Q I h;show wpAny _ _ (evalAll ((do let v ←eval e X.env;standAt pos;pure v)::(backToKw pos (keywordEach kws X.env)).map (·.2))) _ _ s;refine wpAny_evalAll_cons (wpAny_bind (A9 (ha ζ s σ H _ I h) λu s1 ⟨x,H1,I1,r1,q1⟩=>wpAny_bind (wpAny_standAt (wpAny_pure ?_))));exact A9 (hr pos ζ s1 σ H1 _ I1 q1) λus s2 ⟨xs,H2,I2,r2,q2⟩=>⟨x::xs,H2,I2,.cons r1 r2,q2⟩
variable{g:List Value->List Value->List Value}{gV:List V->List V->List V}
end
structure FnScope(N P:List Str)(sc:Scope):Prop where
 kind:sc.kind=.function
 co:sc.isCoroutine=false
 gen:sc.isGenerator=false
 nd:N.Nodup
 pre:N.take P.length=P
 par:∀x∈P,sc.names.lookup x=some .local∨sc.names.lookup x=some .cell
 nofree:∀y∈sc.names,y.2≠.free
theorem sX{kindOf:Str->Option NameKind}{x:Str}:∀{binds:List (Str×Value)}{m:Str->Option Value},(∀v,(x,v)∉binds)->bindL kindOf binds m x=m x
 |[],_,_=>rfl
 |(n,v)::r,m,h=>by
  unfold bindL;rw[sX λw hw=>h w (mem_cons_of_mem _ hw)];split
  ·have:x≠n:=by rintro rfl;exact h v mem_cons_self
   simp[this]
  ·rfl
theorem sY{kindOf:Str->Option NameKind}{x:Str}:∀{binds:List (Str×Value)}{m:Str->Option Value},(∀v,(x,v)∉binds)->bindC kindOf binds m x=m x
 |[],_,_=>rfl
 |(n,v)::r,m,h=>by
  unfold bindC;rw[sY λw hw=>h w (mem_cons_of_mem _ hw)];split
  ·rfl
  ·have:x≠n:=by rintro rfl;exact h v mem_cons_self
   simp[this]
theorem sZ{kindOf:Str->Option NameKind}{x:Str}{v:Value}:∀{P:List Str}{vs:List Value}{i:Nat}{m:Str->Option Value},P.Nodup->P[i]?=some x->vs[i]?=some v->kindOf x=some .local->
  bindL kindOf (P.zip vs) m x=some v
 |[],_,_,_,_,h,_,_=>by simp at h
 |_::_,[],_,_,_,_,h,_=>by simp at h
 |p::P,w::vs,0,m,nd,h1,h2,hk=>by
  simp at h1 h2;subst h1;subst h2;show bindL kindOf ((p,w)::P.zip vs) m p=_;unfold bindL;rw[sX λv hv=>(nodup_cons.mp nd).1 (of_mem_zip hv).1,if_pos hk];simp
 |p::P,w::vs,i+1,m,nd,h1,h2,hk=>by
  show bindL kindOf ((p,w)::P.zip vs) m x=_;unfold bindL;exact sZ (i:=i) (nodup_cons.mp nd).2 (by simpa using h1) (by simpa using h2) hk
theorem tD{kindOf:Str->Option NameKind}{x:Str}{v:Value}:∀{P:List Str}{vs:List Value}{i:Nat}{m:Str->Option Value},P.Nodup->P[i]?=some x->vs[i]?=some v->kindOf x≠some .local->
  bindC kindOf (P.zip vs) m x=some v
 |[],_,_,_,_,h,_,_=>by simp at h
 |_::_,[],_,_,_,_,h,_=>by simp at h
 |p::P,w::vs,0,m,nd,h1,h2,hk=>by
  simp at h1 h2;subst h1;subst h2;show bindC kindOf ((p,w)::P.zip vs) m p=_;unfold bindC;rw[sY λv hv=>(nodup_cons.mp nd).1 (of_mem_zip hv).1,if_neg hk];simp
 |p::P,w::vs,i+1,m,nd,h1,h2,hk=>by
  show bindC kindOf ((p,w)::P.zip vs) m x=_;unfold bindC;exact tD (i:=i) (nodup_cons.mp nd).2 (by simpa using h1) (by simpa using h2) hk
def start(N:List Str)(vs:List V):St:=vs.map some++replicate (N.length-vs.length) none
def K1(CX:Q1)(P:Program)(w:World)(K:Frag)(mg:Str->Option Value)(base:Heap)(N:List Str)(qual:Str)(scope:Scope)(f:Addr)(cd:Value)(A:Around)(outer:List Env)(s:Shared)(H:Hp)(E:XK):Cx where
 prog:=P
 w:=w
 K:=K
 mg:=mg
 base:=base
 A:=A.deeper (envOfC qual scope s.heap.objs.size f cd)
 N:=N
 s₀:=s
 H₀:=H
 env:=envOfC qual scope s.heap.objs.size f cd
 outer:=outer
 stack:=envOfC qual scope s.heap.objs.size f cd::outer
 ex:=[]
 calm:=true
 fn:=λ_=>true
 pn:=[]
 xe:=λe s'=>wpAny (model P w) (A.deeper (envOfC qual scope s.heap.objs.size f cd)) (leaving (envOfC qual scope s.heap.objs.size f cd) e) (λ_ s''=>CX outer H s E e s'') (λe' s''=>CX outer H s E e' s'') s'
theorem tE{sc:Scope}{n:Nat}{x:Str}(h:sc.names.lookup x=some .cell):∃c,(cellsFrom n sc.names []).lookup x=some c:=by
 have q:=cellsFrom_some sc.names n [] (.inl h);exact isSome_iff_exists.mp q
theorem tF{CX:Q1}{P:Program}{w:World}{K:Frag}{mg:Str->Option Value}{base:Heap}{N ps:List Str}{qual:Str}{scope:Scope}{f:Addr}{cd:Value}{A:Around}{outer:List Env}{s s1:Shared}{H:Hp}{E:XK}{us:List Value}{vs:List V}
  (S:FnScope N ps scope) (hd:A.handled=none) (e0:Env0 P w K mg base A outer s H) (hl:vs.length=ps.length) (r:Vals vs us)
  (x:InCallC s s.heap.objs.size (bindL (envOfC qual scope s.heap.objs.size f cd).kindOf (ps.zip us) λ_=>none) (cellsFrom (s.heap.objs.size+1) scope.names []) (bindC (envOfC qual scope s.heap.objs.size f cd).kindOf (ps.zip us) λ_=>none) s1):
  Inv (K1 CX P w K mg base N qual scope f cd A outer s H E) [] (start N vs) H s1:=by
 have hpl:ps.length<=N.length:=by have:=congrArg length S.pre;rw[length_take]at this;omega
 obtain⟨h1,tk,rfl,hk⟩:=x.done;have noA:∀b:Addr,b∉(K1 CX P w K mg base N qual scope f cd A outer s H E).ex:=λb z=>absurd (show b∈([]:List Addr)from z) (!2)
 refine⟨⟨e0.mod,S.kind,rfl,rfl,le_refl _,λy z c h1 h2=>?_,λy hy=>?_,λy c _ h=>?_,λ_=>hd,Around.frames_deeper e0.frames,.inr ⟨rfl,rfl⟩,λb z=>absurd z (noA b),e0.bs,e0.bsz,λb _ _=>noA b,λb z=>absurd z (noA b),e0.funs,e0.frf⟩,
  rfl,e0.bare,Un.kept hk,⟨_,x.toInCall.ns,λi y v h1 h2 h3=>?_⟩,λy c h=>⟨_,x.cell y c h⟩,e0.hok.fresh (le_refl _),λy c h=>?_,λp hp=>absurd (show p∈([]:List (Addr×Obj))from hp) (!2),e0.hok.kept hk,?_⟩
 ·exact name_of_addr x.apart (PySem.mem_of_lookup h1) (PySem.mem_of_lookup h2)
 ·have hy:scope.names.lookup y=some .cell∨scope.names.lookup y=some .free:=hy
  rcases hy with hy|hy
  ·exact tE hy
  ·exact absurd rfl (S.nofree _ (PySem.mem_of_lookup hy))
 ·exact le_of_lt (x.above y c (PySem.mem_of_lookup h))
 ·have hi:i<vs.length:=by
   unfold start at h2;by_cases hi:i<vs.length
   ·exact hi
   ·rw[getElem?_append_right (by simpa using hi)]at h2
    rw[List.getElem?_replicate]at h2;split at h2<;>cases h2
  have ha:vs[i]?=some v:=by
   unfold start at h2;rw[getElem?_append_left (by simpa using hi),getElem?_map]at h2;cases e:vs[i]? with
   |none=>rw[e]at h2;cases h2
   |some a=>rw[e]at h2;cases h2;rfl
  obtain⟨u,hu,rv⟩:=r.get ha;have hp:ps[i]?=some y:=by
   rw[←S.pre,List.getElem?_take_of_lt (!1)];exact h1
  have ndP:ps.Nodup:=by rw[←S.pre];exact S.nd.sublist (List.take_sublist _ _)
  refine⟨u,rv,?_⟩;rcases S.par y (mem_of_getElem? hp)with k|k
  ·exact .inl ⟨k,sZ ndP hp hu k⟩
  ·obtain⟨c,e⟩:=tE (n:=s.heap.objs.size+1) k
   refine .inr ⟨.inl k,c,e,?_⟩;have q:=x.cell y c e;rw[tD ndP hp hu (by show scope.names.lookup y≠_;rw[k];decide)]at q;exact q
 ·exact e0.hok.fresh (le_of_lt (x.above y c (PySem.mem_of_lookup h)))
 ·unfold start
  show _=N.length;rw[length_append,length_map,length_replicate];omega
theorem kY{CX:Q1}{P:Program}{w:World}{K:Frag}{mg:Str->Option Value}{base:Heap}{k:Nat}{f:Addr}{name qual:Str}{params:Arguments}{body:List Stmt}{scope:Scope}{dV kV doc pm cdv ct oc:Value}{an od:Option Addr}
  {osl:Array (Option Value)} {N ps:List Str} {sp:Sp} (lk:K.lookup f=some ⟨oc,od,.func (fnOf name qual params body scope dV kV doc pm an cdv ct),osl⟩) (hcd:codeIn K cdv qual=true) (S:FnScope N ps scope)
  (len:∀vs H Q E,sp vs H Q E->vs.length=ps.length)
  (hbody:∀(A:Around)(outer:List Env)(s:Shared)(H:Hp)(vs:List V)(Q:VK)(E:XK),Room k (A.deeper (envOfC qual scope s.heap.objs.size f cdv))->sp vs H Q E->
   ∃t,PSs (K1 CX P w K mg base N qual scope f cdv A outer s H E) body t/\t {nx:=λ_ H'=>Q .non H',rt:=Q} (start N vs) H):
  FnOk P w K mg base CX (k+1) f (fnOf name qual params body scope dV kV doc pm an cdv ct) ps sp:=by
 refine⟨len,λA outer s H args us vs Q E hr e0 hb r hsp=>?_⟩;have hl:=len _ _ _ _ hsp;have KX:K.In s.heap:=e0.mod.kin.keeps λb o e=>(e0.bs b o e).1
 have lim:s.heap.NoLimit:=e0.mod.nolimit.keeps λb o e=>(e0.bs b o e).1
 have hkind:∀y∈ps.zip us,scope.names.lookup y.1=some .local∨(scope.names.lookup y.1=some .cell/\((cellsFrom (s.heap.objs.size+1) scope.names []).lookup y.1).isSome=true):=λ⟨n,v⟩ hy=>by
  rcases S.par n (of_mem_zip hy).1 with q|q
  ·exact .inl q
  ·exact .inr ⟨q,cellsFrom_some _ _ _ (.inl q)⟩
 refine codeAny_call_function hr.depth (KX _ _ lk) rfl S.co S.gen rfl (PySem.W.codeRec_of KX hcd) (hb _ _ _ _ ?_);refine wpAny_newFunctionEnv_cells S.kind hkind λenv he s1 x=>?_
 subst he;refine⟨lim.keeps x.toInCall.keep,codeAny_func ?_⟩;obtain⟨t,ht,hq⟩:=hbody A outer s H vs Q E (hr.deeper _) hsp;have I:Inv (K1 CX P w K mg base N qual scope f cdv A outer s H E) [] (start N vs) H s1:=tF S hr.hd e0 hl r x;refine wpAny_mono (ht [] s1 (start N vs) H _ I hq) (λfl s' hs=>?_) λe s' hs=>hs
 have fin:∀{σ':St}{H':Hp}{v:V}{u:Value},Inv (K1 CX P w K mg base N qual scope f cdv A outer s H E) [] σ' H' s'->RelV v u->Q v H'->CE outer P w H s Q u s':=
  λ{σ' H' v u} J rv q=>⟨v,H',J.os,J.bare,J.base,J.hok,rv,q⟩
 cases fl with
 |ret u=>
  obtain⟨v,σ',H',J,rv,q⟩:=hs;exact fin J rv q
 |next=>
  obtain⟨σ',H',J,q⟩:=hs;exact fin (v:=V.non) (u:=Value.none) J rfl q
 |brk=>
  obtain⟨_,_,_,q⟩:=hs;exact False.elim q
 |cont=>
  obtain⟨_,_,_,q⟩:=hs;exact False.elim q
end L2
namespace L2
open PySem PySem.Spec PyProof.Rows
section
variable{X:Cx}{x:Str}{p pos:Pos}{e:Expr}{es:List Expr}{t:TA}{id T:String}{r:List V->Hp->VK->Prop}
def aY(r:List V->Hp->VK->Prop)(t:TA):TE:=fun σ H Q=>t σ H λvs H1=>r vs H1 Q
theorem aZ(hc:CallR X (.builtin id) r)(hg:Gl X x)(hm:X.mg x=none)(hv:bootBuiltins x=some (.builtin id))(ha:PA X (e::es) t)(hn:x≠"__name__":=by decide)(hdb:(x==("__debug__" : Str))=false:=by decide)
  (he:starEach (e::es) X.env=(false,eval e X.env)::starEach es X.env:=by rfl) (hpl:(backTo pos (starEach es X.env)).any (·.1)=false:=by rfl):PE X (.Call (.Name x p) (e::es) [] pos) (aY r t):=by
 intro ζ s σ H Q I h;refine wpAny_Call_Name_kw (X1 I hg hm hv ?_ hn hdb);exact PyProof.Rows.callWith_builtin1 (A9 (ha pos ζ s σ H _ I h) λus s1 ⟨vs,H1,I1,r1,q1⟩=>hc ζ s1 σ H1 vs us Q I1 r1 q1) he hpl
theorem Dz(hc:CallR X (.type T) r)(hg:Gl X x)(hm:X.mg x=none)(hv:bootBuiltins x=some (.type T))(ha:PA X (e::es) t)(hn:x≠"__name__":=by decide)(hdb:(x==("__debug__" : Str))=false:=by decide)
  (he:starEach (e::es) X.env=(false,eval e X.env)::starEach es X.env:=by rfl) (hpl:(backTo pos (starEach es X.env)).any (·.1)=false:=by rfl):PE X (.Call (.Name x p) (e::es) [] pos) (aY r t):=by
 intro ζ s σ H Q I h;refine wpAny_Call_Name_kw (X1 I hg hm hv ?_ hn hdb);exact PyProof.Rows.callWith_type1 (A9 (ha pos ζ s σ H _ I h) λus s1 ⟨vs,H1,I1,r1,q1⟩=>hc ζ s1 σ H1 vs us Q I1 r1 q1) he hpl
end
end L2
namespace HT
open PySem PyProof.Rows
theorem DA(A:Around)(s:Shared)(a:Int)(t:Tok)(c:Int)(u:Tok)(prog:Program)(w:World)(E:Value->Shared->Prop)(Q:Value->Shared->Prop)(h:Q (.bool (decide (a<c))) s):
  wpAny (model prog w) A (richCompare .Lt (.int a t) (.int c u)) Q E s:=
 (PyProof.Rows.lt_int h:wpAny (model prog w) A (compareOp .Lt (.int a t) (.int c u)) Q E s)
section
open PySem.SeqAt
open PySem.AutoSeq1 (wpAny_loadPart')
open PySem.MeetsSeq PySem.MeetsSeq2 PySem.MeetsSeq3
end
section
variable{prog:Program}{w:World}{A:Around}{E:Value->Shared->Prop}{s:Shared}
theorem DB{t b:Addr}{vs ws:List Value}{Q:Value->Shared->Prop}(ht:IsTup s.heap t vs.toArray)(hb:IsTup s.heap b ws.toArray)(hv:vs≠[])
  (h1:ws=[]->Q (.ref t) s) (h2:ws≠[]->Q (.ref s.heap.objs.size) {s with heap:=s.heap.push {cls:=.type "tuple",data:=.seq (vs++ws).toArray} })
  (hsz:vs.length+ws.length<=sizeLine):wpAny (model prog w) A (binaryOp .Add (.ref t) (.ref b)) Q E s:=by
 obtain⟨⟨cls,dd,data,sl⟩,ho,hc,n,hd⟩:=id ht;obtain⟨⟨cls2,dd2,data2,sl2⟩,ho2,hc2,n2,hd2⟩:=id hb;simp only at hc hd hc2 hd2;subst hc hd hc2 hd2;have e:vs.toArray++ws.toArray=(vs++ws).toArray:=by simp
 by_cases hw:ws=[]
 ·exact concat_meets ⟨_,ho,rfl⟩ ⟨_,ho2,rfl⟩ noFill_tuple_add seq_tuple_add PySem.F.slot_tuple_add PySem.F.entry_tuple_add (PySem.F.args_tuple_add_2 _ _)
   (tuple_addW1 t b vs.toArray ws.toArray n n2 dd dd2 sl sl2 (by simpa using hv) (by simp[hw])) ⟨ho,ho2,h1 hw⟩
 ·refine concat_meets ⟨_,ho,rfl⟩ ⟨_,ho2,rfl⟩ noFill_tuple_add seq_tuple_add PySem.F.slot_tuple_add PySem.F.entry_tuple_add (PySem.F.args_tuple_add_2 _ _)
   (tuple_addW2 t b vs.toArray ws.toArray n n2 dd dd2 sl sl2 (by simpa using hv) (by simpa using hw) (by rw[size_toArray,size_toArray];exact hsz)) ⟨ho,ho2,?_⟩
  rw[e];exact h2 hw
def C9(n d:Nat):Option Int->Nat
 |none=>d
 |some v=>if v<0 then(v+(n:Int)).toNat else min v.toNat n
theorem DC(n d:Nat)(hd:d<=n)(o:Option Int):C9 n d o<=n:=by
 cases o with
 |none=>exact hd
 |some v=>
  show(if v<0 then(v+(n:Int)).toNat else min v.toNat n)<=n;by_cases hv:v<0
  ·rw[if_pos hv];omega
  ·rw[if_neg hv];exact Nat.min_le_right _ _
theorem tG(v:Int)(n d:Nat):(if v<0 then max (v+(n:Int)) 0 else min v (n:Int))=((C9 n d (some v):Nat):Int):=by
 show(if v<0 then max (v+(n:Int)) 0 else min v (n:Int))=(((if v<0 then(v+(n:Int)).toNat else min v.toNat n):Nat):Int);by_cases hv:v<0
 ·simp only[if_pos hv];omega
 ·simp only[if_neg hv];omega
theorem DD(lo hi:Option Int)(n:Nat):Builtin.Slice.sliceAdjust lo hi 1 (n:Int)=(((C9 n 0 lo:Nat):Int),((C9 n n hi:Nat):Int)):=by
 have h1:¬((1:Int)<0):=by omega
 unfold Builtin.Slice.sliceAdjust;simp only[h1,if_false];refine Prod.ext ?_ ?_
 ·cases lo with
  |none=>rfl
  |some v=>exact tG v n 0
 ·cases hi with
  |none=>rfl
  |some v=>exact tG v n n
theorem DE(i j:Nat):Builtin.Slice.slicePlaces (i:Int) (j:Int) 1=j-i:=by
 unfold Builtin.Slice.slicePlaces;have h1:(1:Int)>0:=by omega
 simp only[h1,if_true,Int.ediv_one];split<;>omega
theorem tH{v:Value}{o:Option Int}{Q:Option Int->Shared->Prop}(p:IsPart v o)(h:Q o s):wpAny (model prog w) A (Builtin.Slice.slicePartIndex v) Q E s:=by
 cases p with
 |none=>exact slicePart_none h
 |int i t=>exact slicePart_int h
theorem DF{sl:Addr}{vl vu:Value}{lo hi:Option Int}{n:Nat}{Q:Int×Int×Nat->Shared->Prop}(hs:s.heap.IsSliceOf sl vl vu .none)(pl:IsPart vl lo)(pu:IsPart vu hi)
  (h:Q (((C9 n 0 lo:Nat):Int),1,C9 n n hi-C9 n 0 lo) s):wpAny (model prog w) A (Builtin.Slice.sliceApplied (.ref sl) (pure (n:Int))) Q E s:=by
 obtain⟨os,hos,hcs,hds⟩:=id hs;unfold Builtin.Slice.sliceApplied Builtin.Slice.sliceFields;refine wpAny_bind (wpAny_bind (wpAny_field hos hds (x:=vl) rfl (wpAny_bind (wpAny_field hos hds (x:=vu) rfl (wpAny_bind (wpAny_field hos hds (x:=.none) rfl (wpAny_pure ?_)))))));refine wpAny_bind (slicePart_none ?_);show wpAny _ _ (if((1:Int)==0)=true then _ else _) _ _ s;rw[if_neg (!3)];refine wpAny_bind (tH pl (wpAny_bind (tH pu (wpAny_bind (wpAny_pure ?_)))));show wpAny _ _ (match Builtin.Slice.sliceAdjust lo hi 1 (n:Int)with|(lo,hi)=>pure (lo,(1:Int),Builtin.Slice.slicePlaces lo hi 1)) _ _ s;rw[DD lo hi n];show wpAny _ _ (pure (((C9 n 0 lo:Nat):Int),(1:Int),Builtin.Slice.slicePlaces ((C9 n 0 lo:Nat):Int) ((C9 n n hi:Nat):Int) 1)) _ _ s;rw[DE];exact wpAny_pure h
theorem DG(xs:Array Value)(i k:Nat):((List.range k).filterMap λ(m:Nat)=>xs[((i:Int)+(m:Int)*1).toNat]?).toArray=((xs.toList.drop i).take k).toArray:=by
 have e:(λ(m:Nat)=>xs[((i:Int)+(m:Int)*1).toNat]?)=λm=>xs[i+m]?:=by
  funext m
  have:((i:Int)+(m:Int)*1).toNat=i+m:=by omega
  rw[this]
 rw[e];have:=pick_run xs i k;rw[List.filterMap_map]at this;have e2:((λx=>xs[x]?) ∘ λx=>i+x)=λm=>xs[i+m]?:=rfl
 rw[e2]at this;rw[this]
theorem DH{t sl:Addr}{items:Array Value}{vl vu:Value}{lo hi:Option Int}{Q:Value->Shared->Prop}(ht:IsTup s.heap t items)(hs:s.heap.IsSliceOf sl vl vu .none)(pl:IsPart vl lo)(pu:IsPart vu hi)
  (hw:¬(C9 items.size 0 lo=0/\C9 items.size items.size hi=items.size))
  (h:Q (.ref s.heap.objs.size) {s with heap:=s.heap.push {cls:=.type "tuple",data:=.seq ((items.toList.drop (C9 items.size 0 lo)).take (C9 items.size items.size hi-C9 items.size 0 lo)).toArray} })
  (hsz:items.size<=sizeLine):wpAny (model prog w) A (getItem (.ref t) (.ref sl)) Q E s:=by
 have htake:sizeOk (.seq ((items.toList.drop (C9 items.size 0 lo)).take (C9 items.size items.size hi-C9 items.size 0 lo)).toArray):=by
  show((items.toList.drop (C9 items.size 0 lo)).take (C9 items.size items.size hi-C9 items.size 0 lo)).toArray.size<=sizeLine;rw[size_toArray,length_take,length_drop,Array.length_toList];omega
 have hj:C9 items.size items.size hi<=items.size:=DC _ _ (le_refl _) hi;obtain⟨os,hos,hcs,hds⟩:=id hs;have hTs:s.TypeIs (.ref sl) "slice":=⟨os,hos,hcs⟩;unfold getItem
 try with_reducible refine wpAny_holding ?_
 first|refine wpAny_bind (wpAny_pure ?_)|skip
 refine wpAny_bind (wpAny_sequenceKey ht.typeIs (!3) ?_);refine wpAny_bind (wpAny_callSpecial?_slot (name:=Str.ofString "__getitem__") ht.typeIs PyProof.Rows.slot_tuple_getitem
  (wpAny_call_entry PyProof.Rows.slot_tuple_getitem ht.typeIs entry_tuple_getitem ?_ (args_tuple_getitem _ _)))
 show wpAny _ _ (Builtin.Tuple.tupleItemsOf (.ref t) >>= _) _ _ s;refine wpAny_bind (tupleItemsOf_ ht ?_);refine wpAny_bind (wpAny_typeOf hTs ?_);rw[if_pos (!3)];refine wpAny_bind (DF hs pl pu ?_);have hno:¬((((C9 items.size 0 lo:Nat):Int)==0&&(1:Int)==1&&(C9 items.size items.size hi-C9 items.size 0 lo)==items.size)=true):=by
  intro q;rw[Bool.and_eq_true,Bool.and_eq_true]at q;have q1:((C9 items.size 0 lo:Nat):Int)=0:=eq_of_beq q.1.1;have q2:C9 items.size items.size hi-C9 items.size 0 lo=items.size:=eq_of_beq q.2;exact hw ⟨!1,!1⟩
 show wpAny _ _ (if(((C9 items.size 0 lo:Nat):Int)==0&&(1:Int)==1&&(C9 items.size items.size hi-C9 items.size 0 lo)==items.size)=true then _ else _) _ _ s;rw[if_neg hno,DG]
 first
  |exact wpAny_bind (m:=Builtin.Tuple.tupleExact _) (wpAny_newObj_type (wpAny_pure ⟨_,rfl,wpAny_pure h⟩) htake)
  |exact wpAny_bind (m:=Builtin.Tuple.tupleExact _) (wpAny_newObj_type (wpAny_bind (wpAny_pure (wpAny_pure ⟨_,rfl,wpAny_pure h⟩))) htake)
  |exact wpAny_bind (wpAny_bind (m:=Builtin.Tuple.tupleExact _) (wpAny_newObj_type (wpAny_pure (wpAny_pure ⟨_,rfl,wpAny_pure h⟩)) htake))
  |exact wpAny_bind (wpAny_bind (m:=Builtin.Tuple.tupleExact _) (wpAny_newObj_type (wpAny_pure ⟨_,rfl,wpAny_pure h⟩) htake))
end
end HT
namespace L2
open PySem PySem.Spec PyProof.Rows
abbrev TO:=St->Hp->(Option Int->Hp->Prop)->Prop
def PO(X:Cx)(e:Option Expr)(t:TO):Prop:=
 ∀(ζ:List (Addr×Obj))(s:Shared)(σ:St)(H:Hp)(Q:Option Int->Hp->Prop),Inv X ζ σ H s->t σ H Q->
  wpAny (model X.prog X.w) X.A (evalPart e X.env) (λu s'=>∃o H',Inv X ζ σ H' s'/\IsPart u o/\Q o H') X.xe s
def tI:TO:=λ_ H Q=>Q none H
def tJ(t:TE):TO:=fun σ H Q=>t σ H λx H1=>∃i,x=.int i/\Q (some i) H1
section
variable{X:Cx}{e:Expr}{te:TE}{lo hi:Option Expr}{tl th:TO}{pos p2:Pos}
theorem DI:PO X none tI:=by
 intro ζ s σ H Q I h;rw[evalPart_none];exact wpAny_pure ⟨none,H,I,.none,h⟩
theorem DJ(h:PE X e te):PO X (some e) (tJ te):=by
 intro ζ s σ H Q I hw;rw[evalPart_some];refine A9 (h ζ s σ H _ I hw) λu s1 ⟨x,H1,I1,r1,q1⟩=>?_
 obtain⟨i,rfl,q⟩:=q1;obtain⟨t,rfl⟩:=r1;exact⟨some i,H1,I1,.int i t,q⟩
def SlR(X:Cx)(r:V->Option Int->Option Int->Hp->VK->Prop):Prop:=
 ∀(ζ:List (Addr×Obj))(s:Shared)(σ:St)(H:Hp)(x:V)(v vl vu:Value)(lo hi:Option Int)(sl:Addr)(Q:VK),Inv X ζ σ H s->RelV x v->s.heap.IsSliceOf sl vl vu .none->IsPart vl lo->IsPart vu hi->r x lo hi H Q->
  ∃T id,typeLookup (.type T) "__getitem__"=pure (some (.builtin id))/\s.TypeIs v T/\wpAny (model X.prog X.w) X.A (getItem v (.ref sl)) (EP X ζ σ Q) X.xe s
theorem SlR.or{r r':V->Option Int->Option Int->Hp->VK->Prop}(h:SlR X r)(h':SlR X r'):SlR X (λx lo hi H Q=>r x lo hi H Q∨r' x lo hi H Q):=by
 intro ζ s σ H x v vl vu lo hi sl Q I rx hs pl pu q;rcases q with q|q
 ·exact h ζ s σ H x v vl vu lo hi sl Q I rx hs pl pu q
 ·exact h' ζ s σ H x v vl vu lo hi sl Q I rx hs pl pu q
def kZ(r:V->Option Int->Option Int->Hp->VK->Prop)(te:TE)(tl th:TO):TE:=fun σ H Q=>te σ H λx H1=>tl σ H1 λl H2=>th σ H2 λu H3=>r x l u H3 Q
theorem tK{r:V->Option Int->Option Int->Hp->VK->Prop}(hr:SlR X r)(he:PE X e te)(hl:PO X lo tl)(hu:PO X hi th):PE X (.Subscript e (.Slice lo hi none p2) pos) (kZ r te tl th):=by
 intro ζ s σ H Q I h;refine Subscript_ (A9 (he ζ s σ H _ I h) λv s1 h9=>?_);obtain⟨x,H1,I1,r1,q1⟩:=h9;refine wpAny_Slice (A9 (hl ζ s1 σ H1 _ I1 q1) λvl s2 ⟨l,H2,I2,pl,q2⟩=>A9 (hu ζ s2 σ H2 _ I2 q2) λvu s3 h9=>?_);obtain⟨u,H3,I3,pu,q3⟩:=h9;rw[evalPart_none];refine wpAny_pure ?_;have I4:Inv X ζ σ H3 {s3 with heap:=s3.heap.push {cls:=.type "slice",data:=.fields #[vl,vu,.none]} }:=I3.kept (t':=s3.toks) λb ob q=>Heap.get?_push_of_some _ q
 obtain⟨T,id,hT,ht,hg⟩:=hr ζ {s3 with heap:=s3.heap.push {cls:=.type "slice",data:=.fields #[vl,vu,.none]} } σ H3 x v vl vu l u s3.heap.objs.size Q I4 r1 (Heap.IsSliceOf.new ..) pl pu q3;show wpAny (model X.prog X.w) X.A (subscriptTail e (.Slice lo hi none p2) v (.ref s3.heap.objs.size)) (EP X ζ σ Q) X.xe {s3 with heap:=s3.heap.push {cls:=.type "slice",data:=.fields #[vl,vu,.none]} };exact tail_any (ops:=[.ref s3.heap.objs.size,v]) ht hT hg (by with_unfolding_all rfl)
def V8(xs:List V)(lo hi:Option Int):List V:=(xs.drop (HT.C9 xs.length 0 lo)).take (HT.C9 xs.length xs.length hi-HT.C9 xs.length 0 lo)
theorem tL(xs:List V)(lo hi:Option Int):(V8 xs lo hi).length<=xs.length:=by
 unfold V8;rw[length_take,length_drop];omega
def tM(K:Frag):V->Option Int->Option Int->Hp->VK->Prop:=λx lo hi H Q=>∃a xs,x=.ref a/\SqT K H a xs/\
 ¬(HT.C9 xs.length 0 lo=0/\HT.C9 xs.length xs.length hi=xs.length)/\∀p,H p=none->Q (.ref p) (upd H p (.tup (V8 xs lo hi)))
theorem DK:SlR X (tM X.K):=by
 intro ζ s σ H x v vl vu lo hi sl Q I rx hs pl pu h;obtain⟨a,xs,rfl,hx,hw,q⟩:=h;cases rx;obtain⟨its,r,ht,hz⟩:=I.tuple hx;have hlen:its.toArray.size=xs.length:=by rw[size_toArray];exact r.length.symm
 refine⟨"tuple",_,PyProof.Rows.slot_tuple_getitem.lookup,ht.typeIs,?_⟩;refine HT.DH ht hs pl pu (by rw[hlen];exact hw) ?_ (by rw[hlen];exact hz);rw[hlen];refine⟨.ref s.heap.objs.size,_,I.laid (t':=s.toks) (o:=.tup (V8 xs lo hi)) (λb ob q=>Heap.get?_push_of_some _ q) (le_refl _) ?_,rfl,q _ (I.hok.fresh (le_refl _))⟩;exact⟨le_trans (tL xs lo hi) hz,_,(r.drop (HT.C9 xs.length 0 lo)).take (HT.C9 xs.length xs.length hi-HT.C9 xs.length 0 lo),IsTup.new _ _⟩
def tN(K:Frag):R2:=λx y H Q=>∃a b xs ys,x=.ref a/\y=.ref b/\SqT K H a xs/\SqT K H b ys/\xs≠[]/\xs.length+ys.length<=sizeLine/\
 (ys=[]->Q (.ref a) H)/\(ys≠[]->∀p,H p=none->Q (.ref p) (upd H p (.tup (xs++ys))))
theorem Vals.nil_iff{xs:List V}{us:List Value}(r:Vals xs us):us=[]↔xs=[]:=by
 cases r with
 |nil=>simp
 |cons _ _=>simp
theorem DL:OpR X (binaryOp .Add) (tN X.K):=by
 intro ζ s σ H x y v u Q I rx ry h;obtain⟨a,b,xs,ys,rfl,rfl,ha,hb,hx,hz,q1,q2⟩:=h;cases rx;cases ry;obtain⟨its,r1,p1,_⟩:=I.tuple ha;obtain⟨its2,r2,p2,_⟩:=I.tuple hb;refine HT.DB p1 p2 (λz=>hx (r1.nil_iff.mp z)) (λz=>⟨.ref a,H,I,rfl,q1 (r2.nil_iff.mp z)⟩) (λz=>?_) (by rw[←r1.length,←r2.length];exact hz);refine⟨.ref s.heap.objs.size,_,I.laid (t':=s.toks) (o:=.tup (xs++ys)) (λb ob q=>Heap.get?_push_of_some _ q) (le_refl _) ?_,rfl,q2 (λw=>z (r2.nil_iff.mpr w)) _ (I.hok.fresh (le_refl _))⟩;exact⟨by rw[length_append];exact hz,_,r1.append r2,IsTup.new _ _⟩
end
end L2
namespace L2
open PySem PySem.Spec PyProof.Rows
def T9(n:Nat)(i:Int):Option Nat:=if 0<=i then(if i<n then some i.toNat else none)else if -(n:Int)<=i then some (i+n).toNat else none
def I0{α:Type}(xs:List α)(i:Int):Option α:=(T9 xs.length i).bind λj=>xs[j]?
theorem tO{n:Nat}{i:Int}{j:Nat}(h:T9 n i=some j):seqIndex? i n=some j/\j<n/\-(n:Int)<=i/\i<n:=by
 unfold T9 at h;by_cases h0:0<=i
 ·rw[if_pos h0]at h
  by_cases h1:i<n
  ·rw[if_pos h1]at h
   have e:i.toNat=j:=Option.some.inj h;exact⟨by rw[seqIndex_of h0 h1,e],!1,!1,h1⟩
  ·rw[if_neg h1]at h;cases h
 ·rw[if_neg h0]at h
  by_cases h1 : -(n:Int)<=i
  ·rw[if_pos h1]at h
   have e:(i+n).toNat=j:=Option.some.inj h;exact⟨by rw[seqIndex_neg (!1) h1,e],!1,h1,!1⟩
  ·rw[if_neg h1]at h;cases h
theorem lA{α:Type}{xs:List α}{i:Int}{v:α}(h:I0 xs i=some v):∃j,seqIndex? i xs.length=some j/\xs[j]?=some v/\j<xs.length/\-(xs.length:Int)<=i/\i<xs.length:=by
 unfold I0 at h;cases e:T9 xs.length i with
 |none=>rw[e]at h;cases h
 |some j=>
  rw[e]at h;obtain⟨h1,h2,h3,h4⟩:=tO e;exact⟨j,h1,h,h2,h3,h4⟩
theorem L1{α:Type}{xs:List α}{j:Nat}{v:α}(h:xs[j]?=some v):I0 xs (j:Int)=some v:=by
 have hj:j<xs.length:=(List.getElem?_eq_some_iff.mp h).1;have e:T9 xs.length (j:Int)=some j:=by
  unfold T9;rw[if_pos (!1),if_pos (!1)];simp
 unfold I0;rw[e];exact h
theorem bA{α:Type}(xs:List α)(v:α):I0 (xs++[v]) (-1)=some v:=by
 have hl:(xs++[v]).length=xs.length+1:=by simp
 have e:T9 (xs++[v]).length (-1)=some xs.length:=by
  unfold T9;rw[hl,if_neg (!3),if_pos (!1)]
  congr 1
  omega
 unfold I0;rw[e];show(xs++[v])[xs.length]?=some v;simp
def tP(b:Expr):Prop:=∀o i,subscripted b false o i=operate [o,i] (getItem o i)
def IxR(X:Cx)(r:R2):Prop:=
 ∀(value slice:Expr)(ζ:List (Addr×Obj))(s:Shared)(σ:St)(H:Hp)(x y:V)(v u:Value)(Q:VK),Inv X ζ σ H s->RelV x v->RelV y u->r x y H Q->
  subscripted slice false v u=operate [v,u] (getItem v u)->wpAny (model X.prog X.w) X.A (subscriptTail value slice v u) (EP X ζ σ Q) X.xe s
def cV(X:Cx)(id:String)(r:V->List V->Hp->VK->Prop):Prop:=
 ∀(ζ:List (Addr×Obj))(s:Shared)(σ:St)(H:Hp)(x:V)(xs:List V)(v:Value)(us:List Value)(Q:VK),Inv X ζ σ H s->RelV x v->Vals xs us->r x xs H Q->
  wpAny (model X.prog X.w) X.A (call (.builtin id) (v::us)) (EP X ζ σ Q) X.xe s
section
variable{X:Cx}{a b:Expr}{ta tb:TE}{pos:Pos}
theorem IxR.or{r r':R2}(h:IxR X r)(h':IxR X r'):IxR X (λx y H Q=>r x y H Q∨r' x y H Q):=by
 intro value slice ζ s σ H x y v u Q I rx ry q hs;rcases q with q|q
 ·exact h value slice ζ s σ H x y v u Q I rx ry q hs
 ·exact h' value slice ζ s σ H x y v u Q I rx ry q hs
theorem DM{r:R2}(hr:IxR X r)(ha:PE X a ta)(hb:PE X b tb)(hs:tP b):PE X (.Subscript a b pos) (T8 r ta tb):=by
 intro ζ s σ H Q I h;exact Subscript_ (kJ ha hb I h λv u s2 x y H2 I2 rx ry q=>hr a b ζ s2 σ H2 x y v u Q I2 rx ry q (hs _ _))
def tQ(K:Frag):R2:=λx y H Q=>∃p xs i v,x=.ref p/\y=.int i/\SqL K H p xs/\I0 xs i=some v/\Q v H
def tR(K:Frag):R2:=λx y H Q=>∃p xs i v,x=.ref p/\y=.int i/\SqT K H p xs/\I0 xs i=some v/\Q v H
def tS:R2:=λx y H Q=>∃z i c,x=.str z/\y=.int i/\z.length<=sizeLine/\I0 z.cps.toList i=some c/\Q (.str ⟨#[c]⟩) H
theorem DN:IxR X (tQ X.K):=by
 intro value slice ζ s σ H x y v u Q I rx ry h hs;obtain⟨p,xs,i,z,rfl,rfl,hq,he,q⟩:=h;cases rx;obtain⟨t,rfl⟩:=ry;obtain⟨its,r,pl,hz⟩:=I.list hq;obtain⟨j,h1,h2,h3,h4,h5⟩:=lA he;obtain⟨w,ew,rw'⟩:=r.get h2;have hl:=r.length;have hn:=aW;have fin:EP X ζ σ Q w s:=⟨z,H,I,rw',q⟩;by_cases h0:0<=i
 ·have hj:i.toNat=j:=by
   rw[seqIndex_of h0 h5]at h1;exact Option.some.inj h1
  exact item_listR pl.isList h0 (!1) (by rw[hj];simpa using ew) fin hs
 ·have hj:(i+(its.toArray.size:Int)).toNat=j:=by
   rw[seqIndex_neg (!1) h4]at h1;rw[size_toArray,←hl];exact Option.some.inj h1
  exact subscriptTail_builtinR (x:=w) pl.isList.typeIs slot_list_getitem.lookup
   (wpAny_getItem_list_neg (Q:=λr s'=>r=w/\EP X ζ σ Q r s') pl.isList (!1) (by rw[size_toArray]<;>omega) (!1) (by rw[hj];simpa using ew) ⟨rfl,fin⟩) hs
theorem DO:IxR X (tR X.K):=by
 intro value slice ζ s σ H x y v u Q I rx ry h hs;obtain⟨p,xs,i,z,rfl,rfl,hq,he,q⟩:=h;cases rx;obtain⟨t,rfl⟩:=ry;obtain⟨its,r,pl,hz⟩:=I.tuple hq;obtain⟨j,h1,h2,h3,h4,h5⟩:=lA he;obtain⟨w,ew,rw'⟩:=r.get h2;have hl:=r.length;have hn:=aW;have fin:EP X ζ σ Q w s:=⟨z,H,I,rw',q⟩;exact subscriptTail_builtinR (x:=w) pl.typeIs slot_tuple_getitem.lookup
  (getItem_tuple (j:=j) (Q:=λr s'=>r=w/\EP X ζ σ Q r s') pl (!1) (!1) (by rw[size_toArray,←hl];exact h1) (by simpa using ew) ⟨rfl,fin⟩) hs
theorem DP:IxR X tS:=by
 intro value slice ζ s σ H x y v u Q I rx ry h hs;obtain⟨z,i,c,rfl,rfl,hz,he,q⟩:=h;obtain⟨t,rfl⟩:=rx;obtain⟨t',rfl⟩:=ry;obtain⟨j,h1,h2,h3,h4,h5⟩:=lA he;have hl:z.cps.toList.length=z.length:=by simp[Str.length]
 rw[hl]at h1 h4 h5;have hn:=aW;exact tail_any (typeIs_str s z t) slot_str_getitem.lookup (getItem_str (c:=c) (by
  have e1:decide (i < -(2^63:Int))=false:=decide_eq_false (!1);have e2:decide (i ≥ 2^63)=false:=decide_eq_false (!1);rw[e1,e2,Bool.or_false]) (by rw[h1];simpa using h2) ⟨.str ⟨#[c]⟩,H,I.tok _,⟨_,rfl⟩,q⟩) hs
theorem DQ(its:List Value)(n j:Nat)(u:Value):Obj.mapSeq (·.setIfInBounds j u) {cls:=.type "list",data:=.seq its.toArray n}={cls:=.type "list",data:=.seq (its.set j u).toArray n}:=by
 simp[Obj.mapSeq]
theorem Inv.lst{ζ:List (Addr×Obj)}{σ:St}{H:Hp}{s:Shared}{p:Addr}{xs:List V}(I:Inv X ζ σ H s)(h:H p=some (.lst xs)):
  ∃(its:List Value)(n:Nat),Vals xs its/\s.heap.get? p=some {cls:=.type "list",data:=.seq its.toArray n}/\xs.length<=sizeLine:=by
 obtain⟨z,its,n,r,e⟩:=I.hok p _ h;exact⟨its,n,r,e,z⟩
theorem Inv.lstUpd{ζ:List (Addr×Obj)}{σ:St}{H:Hp}{s:Shared}{p:Addr}{xs ys:List V}{its its':List Value}{n n':Nat}{f:Obj->Obj}(I:Inv X ζ σ H s)(h:H p=some (.lst xs))
  (ho:s.heap.get? p=some {cls:=.type "list",data:=.seq its.toArray n}) (hf:f {cls:=.type "list",data:=.seq its.toArray n}={cls:=.type "list",data:=.seq its'.toArray n'}) (r:Vals ys its') (hz:ys.length<=sizeLine) (t:Nat):
  Inv X ζ σ (upd H p (.lst ys)) {s with heap:=s.heap.update p f,toks:=t}:=by
 have e:(s.heap.update p f).get? p=some {cls:=.type "list",data:=.seq its'.toArray n'}:=by
  rw[Heap.get?_update_self f ho (by rw[hf]<;>rfl),hf]
 refine I.write (x:=p) (e:=p) (by rw[h];trivial) (.inl rfl) (λb u hb q=>(Heap.get?_update_other _ _ (Ne.symm hb)).trans q) ⟨_,e⟩ ?_;exact⟨hz,its',n',r,e⟩
def tT:V->V->V->Hp->(Hp->Prop)->Prop:=λo i v H Q=>∃p xs k j,o=.ref p/\i=.int k/\H p=some (.lst xs)/\T9 xs.length k=some j/\Q (upd H p (.lst (xs.set j v)))
theorem DR:PSet X tT:=by
 intro ζ s σ H o i v ov iv u Q I ro ri rv h;obtain⟨p,xs,k,j,rfl,rfl,hp,hj,q⟩:=h;cases ro;obtain⟨t,rfl⟩:=ri;obtain⟨its,n,r,ho,hz⟩:=I.lst hp;obtain⟨h1,h2,h3,h4⟩:=tO hj;have hl:=r.length;have hn:=aW;have I':Inv X ζ σ (upd H p (.lst (xs.set j v))) {s with heap:=s.heap.update p (Obj.mapSeq (·.setIfInBounds j u))}:=
  I.lstUpd hp ho (DQ its n j u) (r.set rv j) (by rw[List.length_set];exact hz) s.toks
 by_cases h0:0<=k
 ·have hk:k.toNat=j:=by
   rw[seqIndex_of h0 h4]at h1;exact Option.some.inj h1
  exact PySem.W.ki_setAt ho h0 (!1) (by rw[size_toArray,←hl];exact h4) (by rw[hk];exact⟨_,I',q⟩)
 ·have hk:(k+(its.toArray.size:Int)).toNat=j:=by
   rw[seqIndex_neg (!1) h3]at h1;rw[size_toArray,←hl];exact Option.some.inj h1
  exact PySem.W.ki_setBack ho (!1) (by rw[size_toArray,←hl];exact h3) (!1) (by rw[hk];exact⟨_,I',q⟩)
theorem DS(lo hi:Option Int)(n:Nat):(sliceBounds lo hi none n).1=((HT.C9 n 0 lo:Nat):Int)/\(sliceBounds lo hi none n).2.1=((HT.C9 n n hi:Nat):Int)/\(sliceBounds lo hi none n).2.2=1:=by
 refine⟨?_,?_,rfl⟩
 ·cases lo with
  |none=>simp[sliceBounds,HT.C9]
  |some i=>
   simp only[sliceBounds,HT.C9,getD_none,show(1:Int)>0 by decide,if_true];by_cases h:i<0
   ·simp only[h,if_true]<;>omega
   ·simp only[h,if_false]<;>omega
 ·cases hi with
  |none=>simp[sliceBounds,HT.C9]
  |some i=>
   simp only[sliceBounds,HT.C9,getD_none,show(1:Int)>0 by decide,if_true];by_cases h:i<0
   ·simp only[h,if_true]<;>omega
   ·simp only[h,if_false]<;>omega
theorem DT(its:List Value)(lo hi:Option Int):slicePick its.toArray lo hi none=((its.drop (HT.C9 its.length 0 lo)).take (HT.C9 its.length its.length hi-HT.C9 its.length 0 lo)).toArray:=by
 obtain⟨h1,h2,h3⟩:=DS lo hi its.toArray.size;unfold slicePick;rw[h1,h2,h3];simp only[sliceRange_one,pick_run,size_toArray]<;>rfl
def tU(K:Frag):V->Option Int->Option Int->Hp->VK->Prop:=λx lo hi H Q=>∃a xs,x=.ref a/\SqL K H a xs/\∀p,H p=none->Q (.ref p) (upd H p (.lst (V8 xs lo hi)))
theorem DU:SlR X (tU X.K):=by
 intro ζ s σ H x v vl vu lo hi sl Q I rx hs pl pu h;obtain⟨a,xs,rfl,hx,q⟩:=h;cases rx;obtain⟨its,r,ht,hz⟩:=I.list hx;have hlen:=r.length;refine⟨"list",_,slot_list_getitem.lookup,ht.isList.typeIs,?_⟩;refine wpAny_getItem_list_slice ht.isList hs pl pu .none (!2) ?_ (by rw[size_toArray]<;>omega);rw[DT,←hlen];refine⟨.ref s.heap.objs.size,_,I.laid (t':=s.toks) (o:=.lst (V8 xs lo hi)) (λb ob q=>Heap.get?_push_of_some _ q) (le_refl _) ?_,rfl,q _ (I.hok.fresh (le_refl _))⟩;exact⟨le_trans (tL xs lo hi) hz,_,0,(r.drop (HT.C9 xs.length 0 lo)).take (HT.C9 xs.length xs.length hi-HT.C9 xs.length 0 lo),Heap.get?_push_size _ rfl⟩
def U0:V->Bool
 |.non=>true
 |.bl _=>true
 |.int _=>true
 |.str _=>true
 |_=>false
def U1:V->V->Bool
 |.non,.non=>true
 |.bl a,.bl b=>a==b
 |.bl a,.int b=>(if a then 1 else 0)==b
 |.int a,.bl b=>a==(if b then 1 else 0)
 |.int a,.int b=>a==b
 |.str a,.str b=>a==b
 |_,_=>false
theorem DV{A:Around}{s:Shared}{y x:V}{u v:Value}(ry:RelV y u)(rx:RelV x v)(fy:U0 y=true)(fx:U0 x=true):SeqAt.EqAt A s u v (U1 y x):=by
 cases y with
 |non=>
  cases ry;cases x with
  |non=>cases rx;exact SeqAt.EqAt.same _
  |bl b=>cases rx;exact SeqAt.EqAt.none_bool b
  |int b=>obtain⟨t,rfl⟩:=rx;exact SeqAt.EqAt.none_int b t
  |str b=>obtain⟨t,rfl⟩:=rx;exact SeqAt.EqAt.none_str b t
  |_=>exact absurd (show false=true from fx) Bool.false_ne_true
 |bl a=>
  cases ry;cases x with
  |non=>cases rx;exact SeqAt.EqAt.bool_none a
  |bl b=>cases rx;exact SeqAt.EqAt.bool_bool a b
  |int b=>obtain⟨t,rfl⟩:=rx;exact SeqAt.EqAt.bool_int a b t
  |str b=>obtain⟨t,rfl⟩:=rx;exact SeqAt.EqAt.bool_str a b t
  |_=>exact absurd (show false=true from fx) Bool.false_ne_true
 |int a=>
  obtain⟨t',rfl⟩:=ry;cases x with
  |non=>cases rx;exact SeqAt.EqAt.int_none a t'
  |bl b=>cases rx;exact SeqAt.EqAt.int_bool a t' b
  |int b=>obtain⟨t,rfl⟩:=rx;exact SeqAt.EqAt.int_int a t' b t
  |str b=>obtain⟨t,rfl⟩:=rx;exact SeqAt.EqAt.int_str a t' b t
  |_=>exact absurd (show false=true from fx) Bool.false_ne_true
 |str a=>
  obtain⟨t',rfl⟩:=ry;cases x with
  |non=>cases rx;exact SeqAt.EqAt.str_none a t'
  |bl b=>cases rx;exact SeqAt.EqAt.str_bool a t' b
  |int b=>obtain⟨t,rfl⟩:=rx;exact SeqAt.EqAt.str_int a t' b t
  |str b=>obtain⟨t,rfl⟩:=rx;exact SeqAt.EqAt.str_str a t' b t
  |_=>exact absurd (show false=true from fx) Bool.false_ne_true
 |_=>exact absurd (show false=true from fy) Bool.false_ne_true
def V9(x:V)(u:Value):Bool:=match u with
 |.none=>U1 .non x
 |.bool b=>U1 (.bl b) x
 |.int i _=>U1 (.int i) x
 |.str z _=>U1 (.str z) x
 |_=>false
theorem tV{x y:V}{u:Value}(r:RelV y u)(f:U0 y=true):V9 x u=U1 y x:=by
 cases y with
 |non=>cases r;rfl
 |bl b=>cases r;rfl
 |int i=>obtain⟨t,rfl⟩:=r;rfl
 |str z=>obtain⟨t,rfl⟩:=r;rfl
 |_=>exact absurd (show false=true from f) Bool.false_ne_true
theorem lB{x:V}:∀{xs:List V}{us:List Value},Vals xs us->xs.all U0=true->us.any (V9 x)=xs.any λy=>U1 y x
 |_,_,.nil,_=>rfl
 |y::xs,u::us,.cons r t,f=>by
  rw[all_cons,Bool.and_eq_true]at f;rw[any_cons,any_cons,tV r f.1,lB t f.2]
theorem lC{A:Around}{s:Shared}{x:V}{v:Value}(rx:RelV x v)(fx:U0 x=true):∀{xs:List V}{us:List Value},Vals xs us->xs.all U0=true->∀u∈us,SeqAt.EqAt A s u v (V9 x u)
 |_,_,.nil,_=>λu hu=>by cases hu
 |y::xs,u::us,.cons r t,f=>λu' hu=>by
  rw[all_cons,Bool.and_eq_true]at f;rcases mem_cons.mp hu with rfl|hu
  ·rw[tV r f.1];exact DV r rx f.1 fx
  ·exact lC rx fx t f.2 u' hu
def bB(x:V)(xs:List V):Bool:=xs.any λy=>U1 y x
def tW(K:Frag)(gA:Bool):R2:=λx y H Q=>∃p xs,y=.ref p/\(SqL K H p xs∨SqT K H p xs)/\U0 x=true/\xs.all U0=true/\Q (.bl (if gA then !bB x xs else bB x xs)) H
theorem DW:OpR X (compareOp .NotIn) (tW X.K true):=by
 intro ζ s σ H x y v u Q I rx ry h;obtain⟨p,xs,rfl,hq,fx,fs,q⟩:=h;cases ry;rcases hq with hq|hq
 ·obtain⟨its,r,pl,hz⟩:=I.list hq
  refine SeqAt.notIn_listAt (V9 x) pl.isList (λw hw=>lC rx fx r fs w (by simpa using hw)) ⟨.bl _,H,I,rfl,?_⟩;rw[show its.toArray.any (V9 x)=its.any (V9 x) by simp,lB r fs];exact q
 ·obtain⟨its,r,pl,hz⟩:=I.tuple hq
  refine SeqAt.notIn_tupleAt (V9 x) pl (λw hw=>lC rx fx r fs w (by simpa using hw)) ⟨.bl _,H,I,rfl,?_⟩;rw[show its.toArray.any (V9 x)=its.any (V9 x) by simp,lB r fs];exact q
theorem DX:OpR X (compareOp .NotIn) (λx y H Q=>∃i j,x=.str i/\y=.str j/\Q (.bl (!(!(Builtin.Str.occurrences j i 0 j.length 1).isEmpty))) H):=by
 intro ζ s σ H x y v u Q I rx ry h;obtain⟨i,j,rfl,rfl,q⟩:=h;obtain⟨t,rfl⟩:=rx;obtain⟨t',rfl⟩:=ry;exact notIn_str ⟨.bl _,H,I,rfl,q⟩
theorem CallR.or{f:Value}{r r':List V->Hp->VK->Prop}(h:CallR X f r)(h':CallR X f r'):CallR X f (λxs H Q=>r xs H Q∨r' xs H Q):=by
 intro ζ s σ H xs us Q I rs q;rcases q with q|q
 ·exact h ζ s σ H xs us Q I rs q
 ·exact h' ζ s σ H xs us Q I rs q
theorem DY:CallR X (.type "list") (λxs H Q=>∃p ys,xs=[.ref p]/\(SqL X.K H p ys∨SqT X.K H p ys)/\∀l,H l=none->Q (.ref l) (upd H l (.lst ys))):=by
 intro ζ s σ H xs us Q I r h;obtain⟨p,ys,rfl,hq,q⟩:=h;obtain⟨u,rfl,rx⟩:=K9 r;cases rx;have fin:∀(its:List Value),Vals ys its->ys.length<=sizeLine->∀(h':Heap)(c':Nat),(∀b o',s.heap.get? b=some o'->h'.get? b=some o')->
   h'.get? s.heap.objs.size=some {cls:=.type "list",dict:=none,data:=.seq its.toArray c',slots:=#[]}->EP X ζ σ Q (.ref s.heap.objs.size) {s with heap:=h'}:=λits r' hz h' c' kp e=>
  ⟨.ref s.heap.objs.size,_,I.laid (t':=s.toks) kp (le_refl _) (show ObjOk X.prog X.w _ h' _ (.lst ys)from⟨hz,its,c',r',e⟩),rfl,q _ (I.hok.fresh (le_refl _))⟩
 rcases hq with hq|hq
 ·obtain⟨its,r',pl,hz⟩:=I.list hq
  have hlen:=r'.length;obtain⟨o,ho,hc,n,hd⟩:=pl.isList;exact call_list_seq p (.inl rfl) ho hc hd (λh' c' kp e=>fin its r' hz h' c' kp e) (by simp only[size_toArray]<;>omega)
 ·obtain⟨its,r',pl,hz⟩:=I.tuple hq
  have hlen:=r'.length;obtain⟨o,ho,hc,n,hd⟩:=pl;exact call_list_seq p (.inr rfl) ho hc hd (λh' c' kp e=>fin its r' hz h' c' kp e) (by simp only[size_toArray]<;>omega)
def lD(K:Frag)(T:String)(x:V)(H:Hp):Prop:=match x with
 |.str _=>T="str"
 |.int _=>T="int"
 |.ref p=>(T="list"/\∃xs,SqL K H p xs)∨(T="tuple"/\∃o,K.lookup p=some o/\o.cls=.type "tuple"/\o.dict=none)∨
   (T="dict"/\((∃kvs,H p=some (.dK kvs))∨∃kvs,H p=some (.dT kvs)))∨(T="set"/\∃S n,H p=some (.set S n))
 |_=>False
theorem tX{ζ:List (Addr×Obj)}{σ:St}{H:Hp}{s:Shared}{T:String}{x:V}{v:Value}(I:Inv X ζ σ H s)(r:RelV x v)(ty:lD X.K T x H):
  s.TypeIs v T/\∀a,v=.ref a->∃ob,s.heap.get? a=some ob/\ob.dict=none:=by
 cases x with
 |str z=>
  obtain⟨t,rfl⟩:=r;cases(show T="str" from ty);exact⟨typeIs_str s z t,λ_ e=>nomatch e⟩
 |int i=>
  obtain⟨t,rfl⟩:=r;cases(show T="int" from ty);exact⟨typeIs_int s i t,λ_ e=>nomatch e⟩
 |ref p=>
  cases r;rcases ty with⟨rfl,xs,hq⟩|⟨rfl,o,hk,hc,hd⟩|⟨rfl,hk⟩|⟨rfl,S,n,hk⟩
  ·obtain⟨its,_,pl,_⟩:=I.list hq
   refine⟨pl.isList.typeIs,λa e=>?_⟩;cases e;obtain⟨o,n,e,c,hd,_⟩:=pl;exact⟨o,e,hd⟩
  ·refine⟨⟨o,I.kIn p o hk,hc⟩,λa e=>?_⟩
   cases e;exact⟨o,I.kIn _ o hk,hd⟩
  ·have z:∃o,s.heap.get? p=some o/\o.ExactDict:=by
    rcases hk with⟨kvs,hk⟩|⟨kvs,hk⟩
    ·obtain⟨_,_,_,_,o,_,_,e,ex,_⟩:=I.hok p _ hk
     exact⟨o,e,ex⟩
    ·obtain⟨_,_,_,_,o,_,_,e,ex,_⟩:=I.hok p _ hk
     exact⟨o,e,ex⟩
   obtain⟨o,e,ex⟩:=z;refine⟨⟨o,e,ex.1⟩,λa e2=>?_⟩;cases e2;exact⟨o,e,ex.2.1⟩
  ·obtain⟨o,_,_,_,e,ex,_⟩:=I.hok p _ hk
   refine⟨⟨o,e,ex.1⟩,λa e2=>?_⟩;cases e2;exact⟨o,e,ex.2.1⟩
 |_=>exact False.elim ty
def lE(K:Frag)(T:String)(r:V->List V->Hp->VK->Prop)(to:TE):TE:=fun σ H Q=>to σ H λx H1=>lD K T x H1/\r x [] H1 Q
def lF(K:Frag)(T:String)(r:V->List V->Hp->VK->Prop)(to:TE)(t:TA):TE:=fun σ H Q=>to σ H λx H1=>lD K T x H1/\t σ H1 λxs H2=>r x xs H2 Q
variable{o e:Expr}{es:List Expr}{to:TE}{t:TA}{name:Str}{apos cpos:Pos}{T id:String}{r:V->List V->Hp->VK->Prop}
theorem DZ(pa:PlainAttrs T)(slot:Slot T name id)(hty:typeOf (.builtin id)=pure (.type "method_descriptor"))(hm:cV X id r)(ho:PE X o to)
  (hbase:attributeBase o name X.env (eval o X.env)=eval o X.env:=by rfl) (hline:(apos.endLine==cpos.line)=true:=by rfl):PE X (.Call (.Attribute o name apos) [] [] cpos) (lE X.K T r to):=by
 intro ζ s σ H Q I h;refine wpAny_Call_method0_late hbase hline (A9 (ho ζ s σ H _ I h) λv s1 h9=>?_);obtain⟨x,H1,I1,r1,ty,q1⟩:=h9;obtain⟨h1,h2⟩:=tX I1 r1 ty;exact⟨T,id,pa,slot,hty,h1,h2,Calls.callWith_builtin rfl (PySem.evalArgs_none (hm ζ s1 σ H1 x [] v [] Q I1 r1 .nil q1))⟩
theorem Ea(pa:PlainAttrs T)(slot:Slot T name id)(hty:typeOf (.builtin id)=pure (.type "method_descriptor"))(hm:cV X id r)(ho:PE X o to)(ha:PA X (e::es) t)
  (hbase:attributeBase o name X.env (eval o X.env)=eval o X.env:=by rfl)
  (hfew:((backTo cpos (starEach (e::es) X.env)).all (λx=>!x.1)&&(backToKw cpos (keywordEach [] X.env)).all (λx=>x.1.isSome)
   && decide ((e::es).length+([]:List Keyword).length+(if([]:List Keyword).isEmpty then 0 else 1)<30))=true:=by rfl)
  (hline:(apos.endLine==cpos.line)=true:=by rfl) (hs:starEach (e::es) X.env=(false,eval e X.env)::starEach es X.env:=by rfl) (hplain:(backTo cpos (starEach es X.env)).any (·.1)=false:=by rfl):
  PE X (.Call (.Attribute o name apos) (e::es) [] cpos) (lF X.K T r to t):=by
 intro ζ s σ H Q I h;refine wpAny_Call_method_late hbase hfew hline rfl (A9 (ho ζ s σ H _ I h) λv s1 h9=>?_);obtain⟨x,H1,I1,r1,ty,q1⟩:=h9;obtain⟨h1,h2⟩:=tX I1 r1 ty;refine⟨T,id,pa,slot,hty,h1,h2,?_⟩;have hA:=ha cpos ζ s1 σ H1 _ I1 q1;rw[hs]at hA ⊢;refine Calls.callWith_builtin (by show(false||(backTo cpos (starEach es X.env)).any (·.1))=false;rw[hplain]<;>rfl) (Calls.evalArgs_plain ?_);exact A9 hA λus s2 ⟨vs,H2,I2,r2,q2⟩=>hm ζ s2 σ H2 x vs v us Q I2 r1 r2 q2
end
end L2
namespace L2
open PySem PySem.Spec PyProof.Rows
def lG(X:Cx)(id:String)(r:V->List V->Hp->VK->Prop):Prop:=
 ∀(ζ:List (Addr×Obj))(s:Shared)(σ:St)(H:Hp)(x:V)(xs:List V)(v:Value)(us:List Value)(Q:VK),Inv X ζ σ H s->RelV x v->Vals xs us->r x xs H Q->
  wpAny (model X.prog X.w) X.A (call (.builtin id) (v::us)) (EP X ζ σ Q) X.xe s
theorem Vals.one:∀{x:V}{us:List Value},Vals [x] us->∃u,us=[u]/\RelV x u
 |_,_,.cons r .nil=>⟨_,rfl,r⟩
theorem Vals.two{x y:V}{us:List Value}:Vals [x,y] us->∃u v,us=[u,v]/\RelV x u/\RelV y v
 |.cons r t=>by obtain⟨v,e,q⟩:=Vals.one t;exact⟨_,v,by rw[e],r,q⟩
theorem Vals.zero:∀{us:List Value},Vals [] us->us=[]
 |_,.nil=>rfl
theorem Vals.dropLast{xs:List V}{us:List Value}(h:Vals xs us):Vals xs.dropLast us.dropLast:=by
 induction h with
 |nil=>exact .nil
 |cons r t ih=>
  cases t with
  |nil=>exact .nil
  |cons q t'=>exact .cons r ih
theorem Vals.reverse{xs:List V}{us:List Value}(h:Vals xs us):Vals xs.reverse us.reverse:=by
 induction h with
 |nil=>exact .nil
 |cons r t ih=>rw[reverse_cons,reverse_cons];exact Vals.append ih (.cons r .nil)
theorem Vals.rep{xs:List V}{us:List Value}(h:Vals xs us):∀k:Nat,Vals (replicate k xs).flatten (replicate k us).flatten
 |0=>.nil
 |k+1=>by
  rw[replicate_succ,replicate_succ,flatten_cons,flatten_cons];exact Vals.append h (Vals.rep h k)
theorem Eb{α:Type}(l:List α):l.eraseIdx (l.length-1)=l.dropLast:=by
 induction l with
 |nil=>rfl
 |cons a r ih=>
  cases r with
  |nil=>rfl
  |cons b r=>
   have e:(a::b::r).length-1=((b::r).length-1)+1:=by
    have h1:(a::b::r).length=r.length+2:=rfl;have h2:(b::r).length=r.length+1:=rfl;omega
   rw[e,List.eraseIdx_cons_succ,ih]
   all_goals rfl
theorem tY(its:List Value):∀(k:Nat)(acc:List Value),
  List.foldl (λx1 x2=>x1++x2) acc.toArray (replicate k its.toArray)=(acc++(replicate k its).flatten).toArray
 |0,acc=>by simp
 |k+1,acc=>by
  have e:acc.toArray++its.toArray=(acc++its).toArray:=by simp
  have e2:(acc++its)++(replicate k its).flatten=acc++(replicate (k+1) its).flatten:=by
   rw[replicate_succ,flatten_cons,append_assoc]
  rw[←e2,←tY its k (acc++its),←e,replicate_succ,List.foldl_cons]
section
variable{X:Cx}{ζ:List (Addr×Obj)}{σ:St}{H:Hp}{s:Shared}{l b:Addr}{xs ys zs:List V}
theorem Inv.lset{its its':List Value}{n:Nat}{f:Array Value->Array Value}{t':Nat}(I:Inv X ζ σ H s)(hH:H l=some (.lst xs))
  (e:s.heap.get? l=some {cls:=.type "list",data:=.seq its.toArray n}) (hf:f its.toArray=its'.toArray) (hv:Vals ys its') (hz:ys.length<=sizeLine):
  Inv X ζ σ (upd H l (.lst ys)) {s with heap:=s.heap.update l (Obj.mapSeq f),toks:=t'}:=by
 have q:=PySem.IsL.update e f;rw[hf]at q;refine I.write (x:=l) (e:=l) (by rw[hH];exact trivial) (.inl rfl) (λb' u hb hu=>(Heap.get?_update_other s.heap (Obj.mapSeq f) (Ne.symm hb)).trans hu) ⟨_,q⟩ ?_;exact⟨hz,its',_,hv,q⟩
theorem Inv.lnew{its:List Value}{t':Nat}(I:Inv X ζ σ H s)(hv:Vals ys its)(hz:ys.length<=sizeLine):
  Inv X ζ σ (upd H s.heap.objs.size (.lst ys)) {s with heap:=s.heap.push {cls:=.type "list",data:=.seq its.toArray},toks:=t'}:=
 I.laid (λ_ _ q=>Heap.get?_push_of_some _ q) (le_refl _) ⟨hz,its,0,hv,Heap.get?_push_size _ rfl⟩
theorem Inv.fresh(I:Inv X ζ σ H s):H s.heap.objs.size=none:=I.hok.fresh (le_refl _)
theorem Inv.lstM(I:Inv X ζ σ H s)(hH:H l=some (.lst xs)):xs.length<=sizeLine/\∃(its:List Value)(n:Nat),Vals xs its/\xs.length=its.length/\s.heap.get? l=some {cls:=.type "list",data:=.seq its.toArray n}:=by
 obtain⟨z,its,n,r,e⟩:=I.hok l _ hH;exact⟨z,its,n,r,r.length,e⟩
theorem tZ{n:Nat}(h:n<=sizeLine):Builtin.List.listTooLong n=false:=by
 unfold Builtin.List.listTooLong;exact decide_eq_false (!1)
end
section
variable{X:Cx}
def gB:V->List V->Hp->VK->Prop:=λx vs H Q=>∃l xs y,x=.ref l/\vs=[y]/\H l=some (.lst xs)/\xs.length<sizeLine/\Q .non (upd H l (.lst (xs++[y])))
theorem Ec:lG X "list.append" gB:=by
 intro ζ s σ H x vs v us Q I rx rv h;obtain⟨l,xs,y,rfl,rfl,hH,hz,q⟩:=h;cases rx;obtain⟨u,rfl,ru⟩:=rv.one;obtain⟨z,its,n,r,hl,e⟩:=I.lstM hH;refine call_meets F.slot_list_append ⟨_,e,rfl⟩ F.entry_list_append (F.args_list_append_2 _ _) (list_append l its.toArray n u (by rw[size_toArray];omega)) ⟨e,?_⟩;refine⟨.non,_,I.lset (its':=its++[u]) hH e (!2) (r.append (.cons ru .nil)) ?_,rfl,q⟩;rw[length_append,length_singleton];omega
def lH:V->List V->Hp->VK->Prop:=λx vs H Q=>∃l b xs zs,x=.ref l/\vs=[.ref b]/\H l=some (.lst xs)/\H b=some (.lst zs)/\xs.length+zs.length<=sizeLine/\Q .non (upd H l (.lst (xs++zs)))
theorem Ed:lG X "list.extend" lH:=by
 intro ζ s σ H x vs v us Q I rx rv h;obtain⟨l,b,xs,zs,rfl,rfl,hH,hB,hz,q⟩:=h;cases rx;obtain⟨u,rfl,ru⟩:=rv.one;cases ru;obtain⟨z,its,n,r,hl,e⟩:=I.lstM hH;obtain⟨z2,its2,n2,r2,hl2,e2⟩:=I.lstM hB;have hsz:its.toArray.size+its2.toArray.size<=sizeLine:=by rw[size_toArray,size_toArray];omega
 have hlong:¬(!its.toArray.isEmpty&&Builtin.List.listTooLong (its.toArray.size+its2.toArray.size))=true:=by
  rw[tZ hsz,Bool.and_false];exact Bool.false_ne_true
 refine call_meets F.slot_list_extend ⟨_,e,rfl⟩ F.entry_list_extend (F.args_list_extend_2 _ _)
  (AutoSeq1.list_extend_list_list_0 l its.toArray n b its2.toArray n2 hlong (by rw[size_toArray];omega) (!1)) ⟨e,e2,?_⟩
 refine⟨.non,_,I.lset (its':=its++its2) hH e (!2) (r.append r2) ?_,rfl,q⟩;rw[length_append];omega
def uA:V->List V->Hp->VK->Prop:=λx vs H Q=>∃l xs y,x=.ref l/\vs=[]/\H l=some (.lst xs)/\xs[xs.length-1]?=some y/\Q y (upd H l (.lst xs.dropLast))
theorem Ee:lG X "list.pop" uA:=by
 intro ζ s σ H x vs v us Q I rx rv h;obtain⟨l,xs,y,rfl,rfl,hH,hy,q⟩:=h;cases rx;have hus:=rv.zero;subst hus;obtain⟨z,its,n,r,hl,e⟩:=I.lstM hH;obtain⟨u,hu,ru⟩:=r.get hy;have hy':its.toArray[its.toArray.size-1]?=some u:=by
  show its.toArray[its.length-1]?=some u;rw[←Array.getElem?_toList,←hl];exact hu
 refine call_meets F.slot_list_pop ⟨_,e,rfl⟩ F.entry_list_pop (F.args_list_pop_1 _) (MeetsSeq.list_pop_last l its.toArray n u hy' (by rw[size_toArray];omega)) ⟨e,?_⟩;refine⟨y,_,I.lset (its':=its.dropLast) hH e ?_ r.dropLast ?_,ru,q⟩
 ·show its.toArray.eraseIdxIfInBounds (its.toArray.size-1)=its.dropLast.toArray
  rw[size_toArray,List.eraseIdxIfInBounds_toArray,Eb]
 ·rw[List.length_dropLast]
  omega
def uB:R2:=λx y H Q=>∃l b xs zs,x=.ref l/\y=.ref b/\H l=some (.lst xs)/\H b=some (.lst zs)/\xs.length+zs.length<=sizeLine/\∀p,H p=none->Q (.ref p) (upd H p (.lst (xs++zs)))
theorem Ef:OpR X (binaryOp .Add) uB:=by
 intro ζ s σ H x y v u Q I rx ry h;obtain⟨l,b,xs,zs,rfl,rfl,hH,hB,hz,q⟩:=h;cases rx;cases ry;obtain⟨z,its,n,r,hl,e⟩:=I.lstM hH;obtain⟨z2,its2,n2,r2,hl2,e2⟩:=I.lstM hB;refine PySem.P.add_list e e2 ?_ (by rw[size_toArray,size_toArray];omega);have ea:its.toArray++its2.toArray=(its++its2).toArray:=by simp
 rw[ea];exact⟨.ref _,_,I.lnew (t':=s.toks) (r.append r2) (by rw[length_append];omega),rfl,q _ I.fresh⟩
def uC:R2:=λx y H Q=>∃l k xs,x=.ref l/\y=.int k/\H l=some (.lst xs)/\-(2^63)<=k/\k<2^63/\xs.length*k.toNat<=sizeLine/\
 ∀p,H p=none->Q (.ref p) (upd H p (.lst (replicate k.toNat xs).flatten))
theorem cW{α:Type}(xs:List α)(k:Nat):(replicate k xs).flatten.length=k*xs.length:=by
 induction k with
 |zero=>simp
 |succ k ih=>rw[replicate_succ,flatten_cons,length_append,ih,succ_mul,Nat.add_comm]
theorem Eg:OpR X (binaryOp .Mult) uC:=by
 intro ζ s σ H x y v u Q I rx ry h;obtain⟨l,k,xs,rfl,rfl,hH,h1,h2,hz,q⟩:=h;cases rx;obtain⟨t,rfl⟩:=ry;obtain⟨z,its,n,r,hl,e⟩:=I.lstM hH;have hlen:its.toArray.size*k.toNat<=sizeLine:=by rw[size_toArray,←hl];exact hz
 have hcap:¬its.toArray.size*k.toNat>(2^63-1) / 8:=by
  have:(sizeLine:Nat)<=(2^63-1) / 8:=by decide
  omega
 have hfit:¬(!Builtin.List.listFitsIndex k)=true:=by
  rw[fitsIndex_both h1 h2];exact Bool.false_ne_true
 have hlong:¬Builtin.List.listTooLong (its.toArray.size*k.toNat)=true:=by
  rw[tZ hlen];exact Bool.false_ne_true
 have hnew:List.foldl (λx1 x2=>x1++x2) #[] (replicate (if its.toArray.isEmpty=true then 0 else k.toNat) its.toArray)=(replicate k.toNat its).flatten.toArray:=by
  have f0:∀m:Nat,List.foldl (λx1 x2=>x1++x2) #[] (replicate m its.toArray)=(replicate m its).flatten.toArray:=λm=>by
   have:=tY its m [];rw[nil_append]at this;exact this
  rw[f0];cases its with
  |nil=>simp
  |cons a r'=>rw[if_neg (!2)]
 refine wpAny_binaryOp_repeat_ref (T:="list") (U:="int") (!3) ⟨_,e,rfl⟩ (λs'=>typeIs_int s' k t) noFill_list_mul F.fills_int_mul F.slot_int_rmul repeat_list F.slot_int_index.lookup
  (call_meets F.slot_int_rmul (typeIs_int s k t) F.entry_int_rmul (F.args_int_rmul_2 _ _) (int___rmul___int_list k t l its.toArray n)
   ⟨e,rfl,⟨_,e,rfl⟩,call_meets F.slot_list_mul ⟨_,e,rfl⟩ F.entry_list_mul (F.args_list_mul_2 _ _) (AutoListH.list___mul___list_int_3 l its.toArray n k t hfit hcap hlong) ⟨e,?_⟩⟩)
 rw[hnew];exact⟨.ref _,_,I.lnew (t':=s.toks) (r.rep k.toNat) (by rw[cW,Nat.mul_comm];exact hz),rfl,q _ I.fresh⟩
end
end L2
namespace Att
open PySem PySem.W PySem.Calls PyProof.Rows
theorem Eh{P:Params}{h:Heap}:∀(ns:List Int)(vs:List Value),WellAll P h vs (ns.map WData.int)->IntsAre vs ns:=by
 intro ns
 induction ns with
 |nil=>
  intro vs w;rw[map_nil]at w;cases w;exact .nil
 |cons n ns ih=>
  intro vs w;rw[map_cons]at w;cases w with
  |cons a b=>
   cases a;exact .cons _ _ (ih _ b)
theorem Ei{l:OpenLaw}{n:Nat}(hn:l.most=some n){P:Params}{h:Heap}{args:List WData}{vals:List Value}
  (hpre:l.row.toRowW.claim.pre args=true) (hwl:WellAll P h vals args):
  ∃a vs ns,vals=[Value.ref a]/\args=[WData.list (ns.map WData.int)]/\h.get? a=some {cls:=.type "list",data:=.seq vs.toArray}/\IntsAre vs ns/\ns.length<=n:=by
 have hsh:WShape.hasAll [] args [.list .int]=true:=(pre_splitW hpre).1;have hc:l.pre.holds [] {args:=args}=true:=(pre_splitW hpre).2;obtain⟨d,r,rfl,h1,h2⟩:=hasAllW_cons hsh;obtain rfl:=hasAllW_nil h2;obtain⟨xs,rfl,h3⟩:=hasW_list h1;obtain⟨ns,rfl⟩:=items_int h3;have hlen:ns.length<=n:=by
  unfold OpenLaw.pre at hc;have h4:(WTm.not (.lt (.lit (.int (n:Int))) (.len (.arg 0)))).holds [] {args:=[.list (ns.map .int)]}=true:=by
   have h4:=(holds_andW hc).1;rw[hn]at h4;exact h4
  have h5:=condW_of h4 (w_not (w_lt w_lit (w_len_list (w_arg rfl))));rw[length_map]at h5;refine Nat.le_of_not_lt λq=>?_
  have q':(n:Int)<((ns.length:Nat):Int):=by omega
  first
   |(rw[decide_eq_true q']at h5;exact absurd h5 (!3))
   |(simp at h5;omega)
 cases hwl with
 |cons w1 w2=>
  cases w2;cases w1 with
  |list ho hall=>exact⟨_,_,ns,rfl,rfl,ho,Eh ns _ hall,hlen⟩
theorem Ej(l:OpenLaw)(args:List WData):l.row.toRowW.claim.post args (.bool true) args=true:=
 postW_of (r:=l.row.toRowW) (X:=(true==true))
  (show WShape.has [] (.bool true) .bool=true by first|rfl|decide|simp[WShape.has,WShape.arms,WShape.armsAll])
  (show(WTm.eq .res (.lit (.bool true))).value [] {args:=args,res:=some (.bool true),after:=args}=some (.bool (true==true))from w_eq_bool (w_res rfl) w_lit) rfl
theorem Ek{l:OpenLaw}{n:Nat}{q:Program}{loose:List Str}{XP:(Str->Option Value)->Heap->Prop}{YP:World->Heap->Prop}{d:DefRec}
  (hn:l.most=some n) (hdf:d.params.defaults=[])
  (call:∀(w:World)(s₀ s₁:Shared)(mg mb:Str->Option Value)(fa:Addr)(o:Obj)(pm cd doc:Value)(a:Addr)(vs:List Value)(ns:List Int),
   Ground q loose [] XP w s₀ mg mb s₁.heap->YP w s₁.heap->
   s₁.heap.get? fa=some o->o.data=.func (docDef d.name d.params d.body d.scope pm cd doc)->s₁.heap.CodeRec cd d.name->mg d.name=some (.ref fa)->
   s₁.heap.get? a=some {cls:=.type "list",data:=.seq vs.toArray}->IntsAre vs ns->ns.length<=n->s₁.gens=#[]->
   codeAny (model l.prog w) callerA (.call (.ref fa) ⟨[.ref a],[]⟩) (λr s'=>r=.ok (.ret (.bool true))/\OldK s₁.heap s'.heap/\s'.os=s₁.os/\AllBare s'.gens) s₁):
  WalkO q loose XP YP l.row.toRowW d [] (λf vs=>PySem.call f vs):=by
 intro w s₀ s₁ mg mb G Y fa o pm cd doc dV kV ho hd hcd hD hmg hg args vals as hpre hlay hrd hwl hlo;obtain rfl:dV=.none:=Dflts.none hD hdf;obtain rfl:kV=.none:=Dflts.noKw hD;obtain⟨a,vs,ns,rfl,rfl,hobj,hints,hlen⟩:=Ei hn hpre hwl;refine enter_call (codeAny_mono (call w s₀ s₁ mg mb fa o pm cd doc a vs ns G Y ho (fd_plain hd) hcd hmg hobj hints hlen hg) λr s' hq=>?_);obtain⟨rfl,h2,h3,h4⟩:=hq;exact⟨.inl ⟨.bool true,.bool true,[],rfl,λ_=>rfl,.bool true,Ej l _,λ_=>⟨List.Pairwise.nil,λ_ hm=>(nomatch hm)⟩⟩,h2,h3,h4⟩
end Att
namespace L2
open PySem PySem.Spec PyProof.Rows
theorem uD:∀{vs:List Value}{ns:List Int},IntsAre vs ns->Vals (ns.map V.int) vs
 |_,_,.nil=>.nil
 |_,_,.cons n t h=>.cons ⟨t,rfl⟩ (uD h)
end L2
namespace L2
open PySem PySem.Spec PyProof.Rows
def gC(s:Stmt)(j:Nat):Stmt:=match s with
 |.ClassDef _ _ _ body _ _ _ _ _ _ _=>body.getD j (.Pass ⟨0,0,0,0⟩)
 |_=>.Pass ⟨0,0,0,0⟩
def R5(s:Stmt):Arguments:=match s with
 |.FunctionDef _ a _ _ _ _ _ _ _ _=>a
 |_=>{posonlyargs:=[],args:=[],vararg:=none,kwonlyargs:=[],kw_defaults:=[],kwarg:=none,defaults:=[]}
def O4(s:Stmt):List Stmt:=match s with
 |.FunctionDef _ _ b _ _ _ _ _ _ _=>b
 |_=>[]
def B6(s:Stmt):Scope:=match s with
 |.FunctionDef _ _ _ _ _ _ sc _ _ _=>sc
 |_=>{kind:=.function,names:=[],isGenerator:=false,isCoroutine:=false}
abbrev C6:Q1:=λ_ _ _ _ _ _=>False
abbrev E0:XK:=λ_ _ _=>False
theorem bD{X:Cx}:aA C6 X E0:=λ_ _ _ _ _ _ _ h=>h.elim
structure Fun(K:Frag)(x qual:Str)(st:Stmt)(f:Addr)(fd:FuncData):Prop where
 ex:∃(oc:Value)(od:Option Addr)(kV doc pm:Value)(an:Option Addr)(cdv ct:Value)(osl:Array (Option Value)),
  fd=fnOf x qual (R5 st) (O4 st) (B6 st) .none kV doc pm an cdv ct/\K.lookup f=some ⟨oc,od,.func fd,osl⟩/\codeIn K cdv qual=true
 kp:keepIn K (.ref f)=true
section
variable{P:Program}{w:World}{K:Frag}{mg:Str->Option Value}{base:Heap}
theorem Fun.ok{x qual:Str}{st:Stmt}{f:Addr}{fd:FuncData}{N ps:List Str}{k:Nat}{sp:Sp}(F:Fun K x qual st f fd)(S:FnScope N ps (B6 st))(len:∀vs H Q E,sp vs H Q E->vs.length=ps.length)
  (hbody:∀(cdv:Value)(A:Around)(outer:List Env)(s:Shared)(H:Hp)(vs:List V)(Q:VK)(E:XK),Room k (A.deeper (envOfC qual (B6 st) s.heap.objs.size f cdv))->sp vs H Q E->
   ∃t,PSs (K1 C6 P w K mg base N qual (B6 st) f cdv A outer s H E).nox (O4 st) t/\t {nx:=λ_ H'=>Q .non H',rt:=Q} (start N vs) H):FnOk P w K mg base C6 (k+1) f fd ps sp:=by
 obtain⟨oc,od,kV,doc,pm,an,cdv,ct,osl,rfl,lk,hcd⟩:=F.ex;refine kY lk hcd S len λA outer s H vs Q E hr hsp=>?_
 obtain⟨t,h,q⟩:=hbody cdv A outer s H vs Q E hr hsp;exact⟨t,h.nox,q⟩
theorem Fun.binds{x qual:Str}{st:Stmt}{f:Addr}{fd:FuncData}{ps:List Str}(F:Fun K x qual st f fd)
  (h:∀(kV doc pm:Value)(an:Option Addr)(cdv ct:Value)(us:List Value),us.length=ps.length->bindArgs (fnOf x qual (R5 st) (O4 st) (B6 st) .none kV doc pm an cdv ct) ⟨us,[]⟩=pure (ps.zip us)):Binds K fd ps []:=by
 obtain⟨oc,od,kV,doc,pm,an,cdv,ct,osl,rfl,lk,hcd⟩:=F.ex;exact .all (h kV doc pm an cdv ct)
theorem gD{x qual:Str}{st:Stmt}{f:Addr}{oc:Value}{od an:Option Addr}{osl:Array (Option Value)}{kV doc pm cdv ct:Value}(l:K.lookup f=some ⟨oc,od,.func (fnOf x qual (R5 st) (O4 st) (B6 st) .none kV doc pm an cdv ct),osl⟩)
  (c:codeIn K cdv qual=true) (k:keepIn K (.ref f)=true):Fun K x qual st f (fnOf x qual (R5 st) (O4 st) (B6 st) .none kV doc pm an cdv ct):=⟨⟨oc,od,kV,doc,pm,an,cdv,ct,osl,rfl,l,c⟩,k⟩
end
theorem F1{A:Around}{k:Nat}(hr:Room k A):A.units+1<cLine:=lt_of_le_of_lt (Nat.add_le_add_left (by decide:1<=64) _) hr.units
theorem uE{n:Nat}(h:n<=1000):n<sizeLine:=lt_of_le_of_lt h (!3)
section
variable{X:Cx}
theorem pv(i:Nat){x:Str}{pos:Pos}(hN:X.N[i]?=some x:=by rfl)(hv:cP X.env.scope x:=by first|exact Or.inl rfl|exact Or.inr (Or.inl rfl)|exact Or.inr (Or.inr rfl))(hd:(x==("__debug__" : Str))=false:=by decide)
  (hcd:(x==("__classdict__" : Str))=false:=by decide):PE X (.Name x pos) (fH i):=qV hN hv hd hcd
end
theorem C0{A B:Prop}(h:B):if false=true then A else B:=by
 rw[if_neg Bool.false_ne_true];exact h
theorem C8{A B:Prop}(h:A):if true=true then A else B:=by
 rw[if_pos rfl];exact h
theorem L3{c A B:Prop}[Decidable c](h1:c->A)(h2:¬c->B):if c then A else B:=by
 by_cases h:c
 ·rw[if_pos h]
  exact h1 h
 ·rw[if_neg h]
  exact h2 h
def Same(H H':Hp):Prop:=∀b o,H b=some o->H' b=some o
theorem Same.refl(H:Hp):Same H H:=λ_ _ h=>h
theorem Same.trans{H H1 H2:Hp}(a:Same H H1)(b:Same H1 H2):Same H H2:=λc o h=>b c o (a c o h)
theorem Same.free{H H':Hp}(e:Same H H'){l:Addr}(h:H' l=Option.none):H l=Option.none:=by
 cases q:H l with
 |none=>rfl
 |some o=>
  rw[e l o q]at h;cases h
end L2
namespace L2
open PySem PySem.Spec PyProof.Rows
section
variable{κ:Type}[DecidableEq κ]
def M5(kvs:List (κ×V))(k:κ):Option V:=(kvs.find? λkv=>decide (kv.1=k)).map (·.2)
def L4(kvs:List (κ×V))(k:κ)(v:V):List (κ×V):=
 if(kvs.any λkv=>decide (kv.1=k))=true then kvs.map (λkv=>if kv.1=k then(kv.1,v)else kv)else kvs++[(k,v)]
theorem lI{p:κ×V}{r:List (κ×V)}{k:κ}(e:p.1=k):M5 (p::r) k=some p.2:=by simp[M5,find?_cons,e]
theorem lJ{p:κ×V}{r:List (κ×V)}{k:κ}(e:¬p.1=k):M5 (p::r) k=M5 r k:=by simp[M5,find?_cons,e]
theorem gE(k:κ):∀kvs:List (κ×V),(kvs.any λkv=>decide (kv.1=k))=(M5 kvs k).isSome
 |[]=>rfl
 |p::r=>by
  rw[any_cons];by_cases e:p.1=k
  ·simp only[lI e,decide_eq_true e,Bool.true_or,Option.isSome_some]
  ·rw[lJ e,decide_eq_false e,Bool.false_or];exact gE k r
theorem uF(kvs:List (κ×V))(k:κ)(v:V):(L4 kvs k v).length<=kvs.length+1:=by
 unfold L4;split
 ·rw[length_map];omega
 ·rw[length_append,length_cons,List.length_nil];omega
theorem El{kvs:List (κ×V)}{k:κ}(v:V)(h:M5 kvs k=none):L4 kvs k v=kvs++[(k,v)]:=by
 unfold L4;rw[gE,h];exact if_neg (!3)
theorem RelO.isSome_eq{o:Option V}{u:Option Value}(r:RelO o u):o.isSome=u.isSome:=by
 cases o with
 |none=>cases u with
  |none=>rfl
  |some _=>exact(show False from r).elim
 |some _=>cases u with
  |none=>exact(show False from r).elim
  |some _=>rfl
theorem KV.val{kvs:List (κ×V)}{vs:List (κ×Value)}(r:KV kvs vs)(k:κ):RelO (M5 kvs k) (valueAt vs k):=by
 unfold KV at r
 induction r with
 |nil=>exact True.intro
 |@cons p q ps qs h t ih=>
  obtain⟨h1,h2⟩:=h;by_cases e:p.1=k
  ·have e':q.1=k:=h1.symm.trans e
   have b:valueAt (q::qs) k=some q.2:=by simp[valueAt,find?_cons,e']
   rw[lI e,b];exact h2
  ·have e':¬q.1=k:=λz=>e (h1.trans z)
   have b:valueAt (q::qs) k=valueAt qs k:=by simp[valueAt,find?_cons,e']
   rw[lJ e,b];exact ih
theorem KV.any{kvs:List (κ×V)}{vs:List (κ×Value)}(r:KV kvs vs)(k:κ):(kvs.any λkv=>decide (kv.1=k))=vs.any λkv=>decide (kv.1=k):=by
 unfold KV at r
 induction r with
 |nil=>rfl
 |cons h t ih=>rw[any_cons,any_cons,ih,h.1]
theorem KV.repl{kvs:List (κ×V)}{vs:List (κ×Value)}(r:KV kvs vs)(k:κ){y:V}{u:Value}(ry:RelV y u):
  KV (kvs.map λkv=>if kv.1=k then(kv.1,y)else kv) (vs.map λkv=>if kv.1=k then(kv.1,u)else kv):=by
 unfold KV at r ⊢
 induction r with
 |nil=>exact .nil
 |@cons p q ps qs h t ih=>
  rw[map_cons,map_cons];refine .cons ?_ ih;obtain⟨h1,h2⟩:=h;by_cases e:p.1=k
  ·rw[if_pos e,if_pos (h1.symm.trans e)];exact⟨h1,ry⟩
  ·rw[if_neg e,if_neg (λz=>e (h1.trans z))];exact⟨h1,h2⟩
theorem KV.put{kvs:List (κ×V)}{vs:List (κ×Value)}(r:KV kvs vs)(k:κ){y:V}{u:Value}(ry:RelV y u):KV (L4 kvs k y) (stored vs k u):=by
 unfold L4 stored;rw[r.any k];by_cases e:(vs.any λkv=>decide (kv.1=k))=true
 ·rw[if_pos e,if_pos e];exact r.repl k ry
 ·rw[if_neg e,if_neg e];exact Paired.snoc r ⟨rfl,ry⟩
theorem KV.keys{kvs:List (κ×V)}{vs:List (κ×Value)}(r:KV kvs vs):kvs.map (·.1)=vs.map (·.1):=by
 unfold KV at r
 induction r with
 |nil=>rfl
 |cons h t ih=>rw[map_cons,map_cons,ih,h.1]
theorem KV.length{kvs:List (κ×V)}{vs:List (κ×Value)}(r:KV kvs vs):kvs.length=vs.length:=Paired.length r
end
theorem gF{P:Program}{w:World}{k:B1}{u:Value}(r:RelV (kV k) u):(P1 P w).is k u=true:=by
 cases k with
 |inl i=>obtain⟨t,e⟩:=(show ∃t,u=Value.int i t from r);subst e;exact BS P w i t
 |inr x=>obtain⟨t,e⟩:=(show ∃t,u=Value.str x t from r);subst e;exact BT P w x t
theorem uG{P:Program}{w:World}:∀{ks:List B1}{us:List Value},Vals (ks.map kV) us->ItemsAre (P1 P w) ks us
 |[],_,r=>by rw[map_nil]at r;cases r;exact .nil
 |k::ks,_,r=>by
  rw[map_cons]at r;cases r with
  |cons h t=>exact .cons (gF h) (uG t)
abbrev KT(H:Hp):List (List B1×V)->List (List B1×Addr×Value)->Prop:=Paired λp q=>p.1=q.1/\H q.2.1=some (.tup (p.1.map kV))/\RelV p.2 q.2.2
theorem KT.val{H:Hp}{kvs:List (List B1×V)}{xs:List (List B1×Addr×Value)}(r:KT H kvs xs)(k:List B1):RelO (M5 kvs k) ((atKey xs k).map (·.2)):=by
 induction r with
 |nil=>exact True.intro
 |@cons p q ps qs h t ih=>
  obtain⟨h1,_,h2⟩:=h;by_cases e:p.1=k
  ·have e':q.1=k:=h1.symm.trans e
   have b:atKey (q::qs) k=some q.2:=by simp[atKey,find?_cons,e']
   rw[lI e,b];exact h2
  ·have e':¬q.1=k:=λz=>e (h1.trans z)
   have b:atKey (q::qs) k=atKey qs k:=by simp[atKey,find?_cons,e']
   rw[lJ e,b];exact ih
theorem KT.repl{H:Hp}{kvs:List (List B1×V)}{xs:List (List B1×Addr×Value)}(r:KT H kvs xs)(k:List B1){y:V}{u:Value}(ry:RelV y u):
  KT H (kvs.map λkv=>if kv.1=k then(kv.1,y)else kv) (xs.map (putAt k u)):=by
 induction r with
 |nil=>exact .nil
 |@cons p q ps qs h t ih=>
  rw[map_cons,map_cons];refine .cons ?_ ih;obtain⟨h1,h2,h3⟩:=h;unfold putAt;by_cases e:p.1=k
  ·rw[if_pos e,if_pos (h1.symm.trans e)];exact⟨h1,h2,ry⟩
  ·rw[if_neg e,if_neg (λz=>e (h1.trans z))];exact⟨h1,h2,h3⟩
theorem KT.put{H:Hp}{kvs:List (List B1×V)}{xs:List (List B1×Addr×Value)}(r:KT H kvs xs)(k:List B1){b:Addr}{y:V}{u:Value}(hb:H b=some (.tup (k.map kV)))(ry:RelV y u):
  KT H (L4 kvs k y) (storedH xs k b u):=by
 have e:(kvs.any λkv=>decide (kv.1=k))=(atKey xs k).isSome:=by
  rw[gE,(r.val k).isSome_eq,isSome_map]
 unfold L4 storedH;rw[e];by_cases q:(atKey xs k).isSome=true
 ·rw[if_pos q,if_pos q];exact r.repl k ry
 ·rw[if_neg q,if_neg q];exact Paired.snoc r ⟨rfl,hb,ry⟩
theorem KT.keeps{H H':Hp}{kvs:List (List B1×V)}{xs:List (List B1×Addr×Value)}(r:KT H kvs xs)(ht:∀b ys,H b=some (.tup ys)->H' b=some (.tup ys)):KT H' kvs xs:=
 Paired.mapP r λ_ _ z=>⟨z.1,ht _ _ z.2.1,z.2.2⟩
section
variable{P:Program}{w:World}{H:Hp}{h:Heap}{a:Addr}
theorem gG{u:HO}(ok:HOk P w H h)(e:Rd H a u):ObjOk P w H h a u:=e.ok ok
theorem cX{kvs:List (B1×V)}(ok:HOk P w H h)(e:Rd H a (.dK kvs)):kvs.length<=sizeLine/\(a==sysModules)=false/\∃vs,KV kvs vs/\h.DictOf (P1 P w) a vs:=
 show ObjOk P w H h a (.dK kvs)from gG ok e
theorem aB{kvs:List (B1×V)}(ok:HOk P w H h)(e:H a=some (.dK kvs)):kvs.length<=sizeLine/\(a==sysModules)=false/\∃vs,KV kvs vs/\h.DictOf (P1 P w) a vs:=cX ok (.inl e)
theorem gH{ks:List B1}(ok:HOk P w H h)(e:H a=some (.tup (ks.map kV))):(tupleKind (P1 P w)).is h ks a:=by
 obtain⟨_,its,r,o,h1,h2,n,h3⟩:=(show ObjOk P w H h a (.tup (ks.map kV))from ok a _ e);exact⟨o,its.toArray,n,h1,h2,h3,by simpa using uG r⟩
theorem gI{kvs:List (List B1×V)}(ok:HOk P w H h)(e:Rd H a (.dT kvs)):kvs.length<=sizeLine/\(a==sysModules)=false/\
  ∃xs,KT H kvs xs/\h.DictOfH (tupleKind (P1 P w)) a xs:=by
 obtain⟨z,y,xs,r,o,es,ep,h1,h2,h3,h4,h5⟩:=(show ObjOk P w H h a (.dT kvs)from gG ok e);refine⟨z,y,xs,r,o,es,ep,h1,h2,h3,h4,λx hx=>?_,h5⟩;have all:∀{l:List (List B1×V)}{m:List (List B1×Addr×Value)},KT H l m->∀x∈m,(tupleKind (P1 P w)).is h x.1 x.2.1:=by
  intro l m q
  induction q with
  |nil=>intro x hx;exact nomatch hx
  |@cons p q ps qs hq t ih=>
   intro x hx;rcases mem_cons.mp hx with e|hx
   ·subst e
    exact gH ok (by rw[←hq.1];exact hq.2.1)
   ·exact ih x hx
 exact all r x hx
theorem Em{kvs:List (List B1×V)}(ok:HOk P w H h)(e:H a=some (.dT kvs)):kvs.length<=sizeLine/\(a==sysModules)=false/\
  ∃xs,KT H kvs xs/\h.DictOfH (tupleKind (P1 P w)) a xs:=gI ok (.inl e)
end
def DGet(H:Hp)(a:Addr)(y:V)(r:Option V):Prop:=
 (∃kvs k,Rd H a (.dK kvs)/\y=kV k/\r=M5 kvs k)∨∃kvs k b,Rd H a (.dT kvs)/\y=.ref b/\H b=some (.tup (k.map kV))/\r=M5 kvs k
def DPut(H:Hp)(a:Addr)(y v:V)(H':Hp):Prop:=
 (∃kvs k,H a=some (.dK kvs)/\y=kV k/\kvs.length<sizeLine/\H'=upd H a (.dK (L4 kvs k v)))∨
 ∃kvs k b,H a=some (.dT kvs)/\y=.ref b/\H b=some (.tup (k.map kV))/\kvs.length<sizeLine/\H'=upd H a (.dT (L4 kvs k v))
theorem DGet.k{H:Hp}{a:Addr}{kvs:List (B1×V)}{k:B1}(e:H a=some (.dK kvs)):DGet H a (kV k) (M5 kvs k):=.inl ⟨kvs,k,.inl e,rfl,rfl⟩
theorem DPut.k{H:Hp}{a:Addr}{kvs:List (B1×V)}{k:B1}{v:V}(e:H a=some (.dK kvs))(hl:kvs.length<sizeLine):DPut H a (kV k) v (upd H a (.dK (L4 kvs k v))):=.inl ⟨kvs,k,e,rfl,hl,rfl⟩
section
variable{X:Cx}{ζ:List (Addr×Obj)}{σ:St}{H:Hp}{s:Shared}{a:Addr}{y v:V}{u r:Value}{o:Option V}{A:Around}{E:Value->Shared->Prop}
theorem Inv.big(I:Inv X ζ σ H s):sysModules<s.heap.objs.size:=by
 have h:mainGlobals<s.heap.objs.size:=(I.mod.glob.keeps I.bk).lt;exact lt_trans (!3) h
theorem uH{Q:Value->Shared->Prop}(hu:A.units+1<cLine)(I:Inv X ζ σ H s)(g:DGet H a y (some v))(ry:RelV y u)(h:∀w' s',Inv X ζ σ H s'->RelV v w'->Q w' s'):
  wpAny (model X.prog X.w) A (getItem (.ref a) u) Q E s:=by
 rcases g with⟨kvs,k,e,ey,l⟩|⟨kvs,k,b,e,ey,eb,l⟩
 ·subst ey
  obtain⟨z,hd,vs,rel,dd⟩:=cX I.hok e;obtain⟨w',hw,rw'⟩:=RelO.some_of (v:=v) (o:=valueAt vs k) (by rw[l];exact rel.val k);exact wpAny_getItem_of (gF ry) dd.mapOf hw (h w' _ (I.tok _) rw')
 ·subst ey
  cases(show u=Value.ref b from ry);obtain⟨z,hd,xs,rel,dd⟩:=gI I.hok e;obtain⟨w',hw,rw'⟩:=RelO.some_of (v:=v) (o:=(atKey xs k).map (·.2)) (by rw[l];exact rel.val k);obtain⟨p,hp,hp2⟩:=Option.map_eq_some_iff.mp hw;refine wpAny_getItem_heap (tupleKind_room_in1 hu) (gH I.hok eb) dd hp ?_;rw[hp2];exact h w' _ (I.tok _) rw'
theorem En{Q:Value->Shared->Prop}(hu:A.units+1<cLine)(I:Inv X ζ σ H s)(g:DGet H a y o)(ry:RelV y u)(h:∀s',Inv X ζ σ H s'->Q (.bool (!o.isSome)) s'):
  wpAny (model X.prog X.w) A (compareOp .NotIn u (.ref a)) Q E s:=by
 rcases g with⟨kvs,k,e,ey,l⟩|⟨kvs,k,b,e,ey,eb,l⟩
 ·subst ey
  obtain⟨z,hd,vs,rel,dd⟩:=cX I.hok e;refine wpAny_notIn_of (gF ry) hd dd.mapOf ?_;rw[←(rel.val k).isSome_eq,←l];exact h _ (I.tok _)
 ·subst ey
  cases(show u=Value.ref b from ry);obtain⟨z,hd,xs,rel,dd⟩:=gI I.hok e;refine wpAny_notIn_heap (tupleKind_room_in1 hu) (gH I.hok eb) hd dd ?_;have q:=(rel.val k).isSome_eq;rw[isSome_map]at q;rw[←q,←l];exact h _ (I.tok _)
theorem uI{h':Heap}{t':Nat}{ob:HO}(I:Inv X ζ σ H s)(mu:cO (H a))(hs:Heap.SameBut a s.heap h')(he:∃q,h'.get? a=some q)(new:ObjOk X.prog X.w (upd H a ob) h' a ob):
  Inv X ζ σ (upd H a ob) {s with heap:=h',toks:=t'}:=
 I.write (x:=a) (e:=a) mu (.inl rfl) (λb q hb z=>(hs.2 b hb).trans z) he new
theorem Eo{P:Program}{w:World}{H':Hp}{h':Heap}{kvs:List (B1×V)}{vs:List (B1×Value)}(z:kvs.length<=sizeLine)(hd:(a==sysModules)=false)(rel:KV kvs vs)(dd:h'.DictOf (P1 P w) a vs):
  ObjOk P w H' h' a (.dK kvs):=⟨z,hd,vs,rel,dd⟩
theorem Ep{H':Hp}{Q:Unit->Shared->Prop}(hu:A.units+1<cLine)(I:Inv X ζ σ H s)(g:DPut H a y v H')(ry:RelV y u)(rv:RelV v r)(h:∀s',Inv X ζ σ H' s'->Q () s'):
  wpAny (model X.prog X.w) A (setItem (.ref a) u r) Q E s:=by
 rcases g with⟨kvs,k,e,ey,l,eH⟩|⟨kvs,k,b,e,ey,eb,l,eH⟩
 ·subst ey eH
  obtain⟨z,hd,vs,rel,dd⟩:=aB I.hok e;have hz:vs.length<=sizeLine:=by rw[←rel.length];exact z
  have hl:(L4 kvs k v).length<=sizeLine:=by have:=uF kvs k v;omega
  refine wpAny_setItem_pairs (hsz:=hz) (gF ry) dd λh' dd' hs=>h _ ?_
  have he:∃q,h'.get? a=some q:=let⟨q,_,_,hq,_⟩:=dd';⟨q,hq⟩
  exact uI I (by rw[e];exact True.intro) hs he (Eo hl hd (rel.put k rv) dd')
 ·subst ey eH
  cases(show u=Value.ref b from ry);obtain⟨z,hd,xs,rel,dd⟩:=Em I.hok e;have hz:xs.length<=sizeLine:=by rw[←Paired.length rel];exact z
  have hl:(L4 kvs k v).length<=sizeLine:=by have:=uF kvs k v;omega
  refine wpAny_setItem_heap (hsz:=hz) (tupleKind_room_in1 hu) (gH I.hok eb) dd λh' dd' hs=>h _ ?_
  obtain⟨q,es,ep,hq,h2,h3,h4,_,h5⟩:=dd';refine uI I (by rw[e];exact True.intro) hs ⟨q,hq⟩ ⟨hl,hd,_,(rel.put k eb rv).keeps λc ys ec=>?_,q,es,ep,hq,h2,h3,h4,h5⟩;rw[B4 (Z5 ec e (λz=>nomatch z))];exact ec
end
section
variable{X:Cx}{ζ:List (Addr×Obj)}{σ:St}{H:Hp}{s:Shared}{a:Addr}{kvs:List (B1×V)}{k:B1}{u:Value}{A:Around}{E:Value->Shared->Prop}
theorem Er{Q:Value->Shared->Prop}(I:Inv X ζ σ H s)(e:Rd H a (.dK kvs))(h:∀t s',Inv X ζ σ H s'->Q (.int kvs.length t) s'):wpAny (model X.prog X.w) A (call (.builtin "len") [.ref a]) Q E s:=by
 obtain⟨z,hd,vs,rel,dd⟩:=cX I.hok e;refine call_len_dict hd dd (by rw[←rel.length];rw[sizeLine_eq]at z;omega) ?_;rw[←rel.length];exact h _ _ (I.tok _)
end
def uJ(i:Expr):Prop:=∀ov iv,subscripted i false ov iv=operate [ov,iv] (getItem ov iv)
theorem Es{prog:Program}{w:World}{A:Around}{E:Value->Shared->Prop}{s:Shared}{env:Env}{value slice:Expr}{pos:Pos}{T id:String}{Q:Value->Shared->Prop}
  (hl:typeLookup (.type T) "__getitem__"=pure (some (.builtin id))) (hs:uJ slice)
  (h:wpAny (model prog w) A (eval value env) (λo s₁=>wpAny (model prog w) A (eval slice env) (λi s₂=>s₂.TypeIs o T/\wpAny (model prog w) A (getItem o i) Q E s₂) E s₁) E s):
  wpAny (model prog w) A (eval (.Subscript value slice pos) env) Q E s:=by
 refine Subscript_ (wpAny_mono h (λo s₁ h₁=>wpAny_mono h₁ (λi s₂ h₂=>?_) λ_ _ x=>x) λ_ _ x=>x);obtain⟨hT,h₂⟩:=h₂;unfold subscriptTail;refine wpAny_bind ?_;rw[getitemInPython_of_ne hT.not_modules];refine wpAny_bind (wpAny_specialOf hT hl ?_);have fin:wpAny (model prog w) A (subscripted slice false o i) (λr s₃=>wpAny (model prog w) A (letTemporaryGo value o r >>= λ_=>pure r) Q E s₃) E s₂:=by
  rw[hs o i];exact wpAny_operating (wpAny_mono h₂ (λr s₃ h₃=>wpAny_bind (wpAny_letTemporaryGo (wpAny_pure h₃))) λ_ _ x=>x)
 first
  |exact wpAny_pure (wpAny_bind fin)
  |exact wpAny_bind (wpAny_pure (wpAny_bind fin))
  |exact wpAny_bind fin
theorem uK{X:Cx}{ζ:List (Addr×Obj)}{σ:St}{H:Hp}{s:Shared}{a:Addr}{y:V}{o:Option V}(I:Inv X ζ σ H s)(g:DGet H a y o):s.TypeIs (.ref a) "dict":=by
 rcases g with⟨kvs,k,e,_,_⟩|⟨kvs,k,b,e,_,_,_⟩
 ·obtain⟨_,_,vs,_,dd⟩:=cX I.hok e
  exact dd.typeIs
 ·obtain⟨_,_,xs,_,dd⟩:=gI I.hok e
  exact dd.typeIs
def Et(td ty:TE):TE:=fun σ H Q=>td σ H λx H1=>ty σ H1 λy H2=>∃a v,x=.ref a/\DGet H2 a y (some v)/\Q v H2
section
variable{X:Cx}{o i e value:Expr}{pos pos' tpos:Pos}{td ty tv:TE}
theorem Eu(hu:X.A.units+1<cLine)(ho:PE X o td)(hi:PE X i ty)(hs:uJ i):PE X (.Subscript o i pos) (Et td ty):=by
 intro ζ s σ H Q I h;refine Es PySem.F.slot_dict_getitem.lookup hs (A9 (ho ζ s σ H _ I h) λu s1 ⟨x,H1,I1,rx,q1⟩=>A9 (hi ζ s1 σ H1 _ I1 q1) λiv s2 h9=>?_);obtain⟨y,H2,I2,ry,a,v,ex,g,q2⟩:=h9;subst ex;obtain rfl:u=Value.ref a:=rx;exact⟨uK I2 g,uH hu I2 g ry λw' s3 I3 rw'=>⟨v,H2,I3,rw',q2⟩⟩
end
theorem Ev{P:Program}{w:World}{H:Hp}(h:Heap)(hb:sysModules<h.objs.size):ObjOk P w H (h.push {cls:=.type "dict",data:=.dict #[]}) h.objs.size (.dK []):=
 ⟨zero_le _,beq_eq_false_iff_ne.mpr (Ne.symm (ne_of_lt hb)),[],.nil,Heap.DictOf.new h⟩
def uL:TE:=λ_ H Q=>∀p,H p=none->Q (.ref p) (upd H p (.dK []))
section
variable{X:Cx}{pos:Pos}
theorem Ew:PE X (.Dict [] [] pos) uL:=fun ζ s σ H Q I h=>
 wpAny_Dict_empty ⟨.ref s.heap.objs.size,_,I.laid (a:=s.heap.objs.size) (o:=.dK []) (t':=s.toks) (λ_ _ q=>Heap.get?_push_of_some _ q) (le_refl _) (Ev s.heap I.big),rfl,h _ (I.hok.fresh (le_refl _))⟩
end
end L2
namespace L2
open PySem PySem.Spec PyProof.Rows
section
variable{X:Cx}
theorem Ey:CallR X (.builtin "len") (λxs H Q=>∃a kvs,xs=[V.ref a]/\H a=some (.dK kvs)/\Q (.int kvs.length) H):=by
 intro ζ s σ H xs us Q I r h;obtain⟨a,kvs,rfl,ha,q⟩:=h;obtain⟨u,rfl,ru⟩:=K9 r;cases ru;exact Er I (.inl ha) λt s' I'=>⟨.int kvs.length,H,I',⟨t,rfl⟩,q⟩
end
end L2
namespace L2
open PySem PySem.Spec PyProof.Rows
section
variable{κ:Type}[DecidableEq κ]
theorem Ez{kvs:List (κ×V)}{k:κ}{v:V}(h:M5 kvs k=some v):k∈kvs.map (·.1):=by
 have q:(kvs.any λkv=>decide (kv.1=k))=true:=by
  rw[gE,h]
  all_goals rfl
 obtain⟨p,hp,e⟩:=any_eq_true.mp q;exact mem_map.mpr ⟨p,hp,of_decide_eq_true e⟩
end
end L2
set_option maxHeartbeats 4000000
namespace Rg
open PySem PySem.Spec PyProof.Rows L2
theorem uM{α β:Type}{f:α->β->Sem (ForInStep β)}(g:α->β->β):
  ∀(l:List α)(b:β),(∀x∈l,∀c,f x c=pure (ForInStep.yield (g x c)))->forIn l b f=pure (l.foldl (λc x=>g x c) b)
 |[],b,_=>by rw[forIn_nil];rfl
 |x::r,b,h=>by
  rw[forIn_cons,h x mem_cons_self b,pure_bind];show forIn r (g x b) f=_;rw[uM g r (g x b) λy hy c=>h y (mem_cons_of_mem _ hy) c];rfl
def S7(cells:List (Str×Addr))(c:List (Str×Addr))(p:Str×NameKind):List (Str×Addr):=
 if(p.2==NameKind.free)=true then(p.1,(cells.lookup p.1).getD 0)::c else c
def bE(cells:List (Str×Addr))(names:List (Str×NameKind)):List (Str×Addr):=names.foldl (S7 cells) []
theorem EA{scope:Scope}{env:Env}(h:∀p∈scope.names,p.2=.free->∃c,env.cells.lookup p.1=some c):
  closureFor scope env=pure (bE env.cells scope.names):=by
 unfold closureFor bE;dsimp only;rw[uM (λp c=>S7 env.cells c p) scope.names [] (λp hp c=>?_)]
 ·rw[pure_bind]
 ·obtain⟨n,k⟩:=p
  unfold S7;by_cases hk:k=NameKind.free
  ·subst hk
   obtain⟨a,ha⟩:=h _ hp rfl;have e:cellOf env n=pure a:=by unfold cellOf;rw[ha]
   have hb:(NameKind.free==NameKind.free)=true:=by decide
   simp only[hb,if_true,e,pure_bind,ha,getD_some]
  ·have hb:(k==NameKind.free)=false:=by
    cases k<;>first|rfl|exact absurd rfl hk
   simp only[hb,Bool.false_eq_true,if_false]
theorem uN{k:NameKind}(h:(k==NameKind.free)=true):k=.free:=by
 cases k<;>first|rfl|cases h
theorem uO{cells:List (Str×Addr)}:∀(names:List (Str×NameKind))(acc:List (Str×Addr)),(∀p∈names,p.2=.free->∃c,cells.lookup p.1=some c)->
  (∀y c,acc.lookup y=some c->cells.lookup y=some c)->∀y c,(names.foldl (S7 cells) acc).lookup y=some c->cells.lookup y=some c
 |[],_,_,ha,y,c,h=>ha y c h
 |p::r,acc,hn,ha,y,c,h=>by
  refine uO r (S7 cells acc p) (λq hq=>hn q (mem_cons_of_mem _ hq)) (λz d hz=>?_) y c h;unfold S7 at hz;by_cases hk:(p.2==NameKind.free)=true
  ·rw[if_pos hk]at hz
   obtain⟨a,e⟩:=hn p mem_cons_self (uN hk);rw[lookup_cons]at hz;cases hb:z==p.1 with
   |true=>
    rw[hb]at hz;have ez:z=p.1:=eq_of_beq hb;rw[e]at hz;subst ez;rw[e];exact hz
   |false=>rw[hb]at hz;exact ha z d hz
  ·rw[if_neg hk]at hz
   exact ha z d hz
theorem lK{cells:List (Str×Addr)}{y:Str}:∀(names:List (Str×NameKind))(acc:List (Str×Addr)),((y,NameKind.free)∈names∨(acc.lookup y).isSome=true)->((names.foldl (S7 cells) acc).lookup y).isSome=true
 |[],_,h=>by
  rcases h with h|h
  ·exact absurd h (!2)
  ·exact h
 |p::r,acc,h=>by
  refine lK r (S7 cells acc p) ?_;have key:(acc.lookup y).isSome=true->((S7 cells acc p).lookup y).isSome=true:=λha=>by
   unfold S7;split
   ·rw[lookup_cons]
    cases hb:y==p.1 with
    |true=>rfl
    |false=>exact ha
   ·exact ha
  rcases h with h|h
  ·rcases mem_cons.mp h with e|h
   ·refine .inr ?_
    rw[←e];unfold S7;rw[if_pos (show(NameKind.free==NameKind.free)=true by decide),lookup_cons];simp
   ·exact .inl h
  ·exact .inr (key h)
theorem lM{env:Env}{k:NameKind}{y:Str}:∀{names:List (Str×NameKind)},names.lookup y=some k->
  (names.map λ(n,k)=>if(k==NameKind.free&&env.scope.kind==.function&&env.kindOf n==some .cell)then(n,NameKind.cell)else(n,k)).lookup y
   = some (if(k==NameKind.free&&env.scope.kind==.function&&env.kindOf y==some .cell)=true then NameKind.cell else k)
 |[],h=>by simp at h
 |(n,j)::r,h=>by
  rw[lookup_cons]at h;rw[map_cons];cases hb:y==n with
  |true=>
   rw[hb]at h;have e:y=n:=eq_of_beq hb;subst e;have ej:j=k:=Option.some.inj h;subst ej;by_cases hc:(j==NameKind.free&&env.scope.kind==.function&&env.kindOf y==some .cell)=true
   ·simp only[hc,if_true,lookup_cons,hb]
   ·simp only[hc,lookup_cons,hb,if_false,Bool.false_eq_true]
  |false=>
   rw[hb]at h;have ih:=lM (env:=env) (names:=r) h;by_cases hc:(j==NameKind.free&&env.scope.kind==.function&&env.kindOf n==some .cell)=true
   ·simp only[hc,if_true,lookup_cons,hb];exact ih
   ·simp only[hc,lookup_cons,hb,if_false,Bool.false_eq_true];exact ih
theorem uP{env:Env}{y:Str}:∀{names:List (Str×NameKind)},names.lookup y=none->
  (names.map λ(n,k)=>if(k==NameKind.free&&env.scope.kind==.function&&env.kindOf n==some .cell)then(n,NameKind.cell)else(n,k)).lookup y=none
 |[],_=>rfl
 |(n,j)::r,h=>by
  rw[lookup_cons]at h;rw[map_cons];cases hb:y==n with
  |true=>rw[hb]at h;cases h
  |false=>
   rw[hb]at h;have ih:=uP (env:=env) (names:=r) h;by_cases hc:(j==NameKind.free&&env.scope.kind==.function&&env.kindOf n==some .cell)=true
   ·simp only[hc,if_true,lookup_cons,hb];exact ih
   ·simp only[hc,lookup_cons,hb,if_false,Bool.false_eq_true];exact ih
theorem EB{scope:Scope}{env:Env}{y:Str}(h:scope.names.lookup y=some .free):(relabel scope env).names.lookup y=some .cell∨(relabel scope env).names.lookup y=some .free:=by
 have q:=lM (env:=env) h;unfold relabel;by_cases hc:(NameKind.free==NameKind.free&&env.scope.kind==.function&&env.kindOf y==some .cell)=true
 ·exact .inl (q.trans (by rw[if_pos hc]))
 ·exact .inr (q.trans (by rw[if_neg hc]))
theorem EC{scope:Scope}{env:Env}{y:Str}(hn:∀z∈scope.names,z.2≠.cell)(h:(relabel scope env).names.lookup y=some .cell∨(relabel scope env).names.lookup y=some .free):scope.names.lookup y=some .free:=by
 unfold relabel at h;cases e:scope.names.lookup y with
 |none=>
  have q:=uP (env:=env) e;rcases h with h|h
  ·exact absurd (q.symm.trans h) (!2)
  ·exact absurd (q.symm.trans h) (!2)
 |some k=>
  have q:=lM (env:=env) e;have hk:k≠.cell:=hn _ (PySem.mem_of_lookup e);by_cases hc:(k==NameKind.free&&env.scope.kind==.function&&env.kindOf y==some .cell)=true
  ·have:(k==NameKind.free)=true:=by
    rw[Bool.and_eq_true,Bool.and_eq_true]at hc;exact hc.1.1
   rw[uN this]
  ·rw[if_neg hc]at q
   rcases h with h|h
   ·exact absurd (Option.some.inj (q.symm.trans h)) hk
   ·rw[Option.some.inj (q.symm.trans h)]
def lN(x:Str)(fr:List (Str×Nat)):List Str:=x::fr.map (·.1)
def lO(v:Option V)(fr:List (Str×Nat))(σ:L2.St):L2.St:=v::fr.map λp=>(σ[p.2]?).getD none
def ED(X:Cx)(x:Str)(fr:List (Str×Nat))(scope:Scope)(fp:List Addr)(C:Addr)(s:Shared)(H:Hp):Cx where
 prog:=X.prog
 w:=X.w
 K:=X.K
 mg:=X.mg
 base:=X.base
 A:=X.A
 N:=lN x fr
 s₀:=s
 H₀:=H
 env:=compEnvC scope (bE X.env.cells scope.names) C X.env
 outer:=X.stack
 stack:=X.stack
 ex:=fp
 fn:=λ_=>false
 calm:=X.calm
 pn:=[]
 xe:=λ_ _=>False
structure LcOk(X:Cx)(x:Str)(fr:List (Str×Nat))(scope:Scope):Prop where
 nocell:∀y∈scope.names,y.2≠.cell
 kind:scope.kind=.function
 nm:∀y∈scope.names,y.2=.local->scope.names.lookup y.1=some .local
 hx:scope.names.lookup x=some .local
 nd:(lN x fr).Nodup
 free:∀y∈scope.names,y.2=.free->X.env.scope.names.lookup y.1=some .cell∨X.env.scope.names.lookup y.1=some .free
 fr:∀p∈fr,X.N[p.2]?=some p.1/\scope.names.lookup p.1=some .free
def EE(fr:List (Str×Nat))(wi:TI)(te:TE):TE:=fun σ H Q=>wi σ H λJ H1=>∃W:Nat->Nat->List V->Hp->Prop,(∃m,W 0 m [] H1)/\∀i m ys H,W i m ys H->
 (J.stop i H/\ys.length<=sizeLine/\∀p,H p=none->Q (.ref p) (upd H p (.lst ys)))∨
 (J.go i H/\ys.length<sizeLine/\∃N:V->Hp->Prop,(∀y H2,N y H2->∃m',m'<m/\W (i+1) m' (ys++[y]) H2)/\∀v H',J.yld i H v H'->te (lO (some v) fr σ) H' N)
section
variable{prog:Program}{w:World}{A:Around}{R:Result->Shared->Prop}{s:Shared}
theorem EF{elt target iter:Expr}{scope:Scope}{pos:Pos}{it acc:Value}{env:Env}(I:Nat->Shared->Prop)
  (turn:∀n t,I n t->wpAny (model prog w) A (pyNext it) (λr s₁=>match r with
   |none=>R (.ok .next) s₁
   |some v=>wpAny (model prog w) A (letOwnedTupleGo target it v) (λ_ s₂=>wpAny (model prog w) A (assign target env v) (λ_ s₃=>wpAny (model prog w) A (eval elt env) (λy s₄=>
     wpAny (model prog w) A (call (.builtin "list.append") [acc,y]) (λ_ s₅=>∃m,m<n/\I m s₅) (λ_ _=>False) s₄) (λ_ _=>False) s₃) (λ_ _=>False) s₂) (λ_ _=>False) s₁) (λ_ _=>False) t)
  (n:Nat) (h:I n s):codeAny (model prog w) A (.compLoop (.ListComp elt [⟨target,iter,[],0⟩] scope pos) 0 it acc env) R s:=by
 refine codeAny_loop rfl I (λk t hI=>?_) n h;show wpAny _ _ ((compTurn (.ListComp elt [⟨target,iter,[],0⟩] scope pos) 0 it acc env).onRaise (λx=>do noteFrame x env;theTreesLotGoes x)) _ _ t;refine wpAny_noted ?_;rw[compTurn_list1];refine wpAny_bind (wpAny_standAt (wpAny_bind (wpAny_mono (turn k t hI) (λr s₁ h₁=>?_) λ_ _ z=>z.elim)));cases r with
 |none=>exact wpAny_pure h₁
 |some v=>
  refine wpAny_bind (wpAny_mono h₁ (λ_ s₂ h₂=>?_) λ_ _ z=>z.elim);refine wpAny_bind (wpAny_mono h₂ (λ_ s₃ h₃=>?_) λ_ _ z=>z.elim);refine wpAny_bind (wpAny_bind (wpAny_mono h₃ (λy s₄ h₄=>?_) λ_ _ z=>z.elim));refine wpAny_bind (wpAny_mono h₄ (λ_ s₅ h₅=>?_) λ_ _ z=>z.elim);exact wpAny_pure (wpAny_pure ⟨rfl,h₅⟩)
end
theorem uQ{fs ex:List Addr}{H H':Hp}{h h1 h2:Heap}{C D:Addr}{o:HO}(u:Un fs ex H H' h h1)(hC:h.objs.size<=C)(hD:h.objs.size<=D)(hn:H' D=none)(sb:Heap.SameBut C h1 h2):Un fs ex H (upd H' D o) h h2 where
 keep:=λb ob q n hf hx=>(sb.2 b (ne_of_lt (lt_of_lt_of_le (Heap.lt_size q) hC))).trans (u.keep b ob q n hf hx)
 slot:=λb ob q n hf hx=>by
  obtain⟨sl,e⟩:=u.slot b ob q n hf hx;exact⟨sl,(sb.2 b (ne_of_lt (lt_of_lt_of_le (Heap.lt_size q) hC))).trans e⟩
 free:=λb ob q n hx=>by
  rw[B4 (ne_of_lt (lt_of_lt_of_le (Heap.lt_size q) hD))];exact u.free b ob q n hx
 there:=λb ob q hx=>by
  obtain⟨o',e⟩:=u.there b ob q hx;exact⟨o',(sb.2 b (ne_of_lt (lt_of_lt_of_le (Heap.lt_size q) hC))).trans e⟩
 tups:=λb xs q=>by
  have z:=u.tups b xs q;rw[B4 (E5 z hn)];exact z
 frzs:=λb ob v q=>by
  have z:=u.frzs b ob v q;rw[B4 (E5 z hn)];exact z
 tbls:=λb ps q=>by
  obtain⟨more,z⟩:=u.tbls b ps q;exact⟨more,by rw[B4 (E5 z hn)];exact z⟩
end Rg
namespace Rg
open PySem PySem.W PyProof.Rows
def KOk{α:Type}(n:Nat)(P:α->Prop):KasT α->Prop
 |.ret a=>P a
 |.ask i j k=>i<n/\j<n/\∀b,KOk n P (k b)
theorem KOk.bind{α β:Type}{n:Nat}{P:β->Prop}{f:α->KasT β}:∀{t:KasT α},KOk n (λa=>KOk n P (f a)) t->KOk n P (t.bind f)
 |.ret _,h=>h
 |.ask _ _ k,h=>⟨h.1,h.2.1,λb=>KOk.bind (t:=k b) (h.2.2 b)⟩
theorem KOk.imp{α:Type}{n:Nat}{P P':α->Prop}(hp:∀a,P a->P' a):∀{t:KasT α},KOk n P t->KOk n P' t
 |.ret _,h=>hp _ h
 |.ask _ _ k,h=>⟨h.1,h.2.1,λb=>KOk.imp hp (t:=k b) (h.2.2 b)⟩
theorem KOk.ite{α:Type}{n:Nat}{P:α->Prop}{c:Prop}[Decidable c]{t u:KasT α}(h1:KOk n P t)(h2:KOk n P u):KOk n P (if c then t else u):=by
 split
 ·exact h1
 ·exact h2
def Pm(n:Nat)(p:Array Nat):Prop:=p.toList.Perm (List.range n)
theorem Pm.lt{n:Nat}{p:Array Nat}(h:Pm n p)(hn:0<n)(i:Nat):p.getD i 0<n:=by
 by_cases hi:i<p.size
 ·have e:p.getD i 0=p[i]:=by simp[Array.getD,hi]
  rw[e];exact mem_range.mp (h.mem_iff.mp (!2))
 ·have e:p.getD i 0=0:=by simp[Array.getD,hi]
  rw[e];exact hn
theorem Pm.rev{n:Nat}{p:Array Nat}(h:Pm n p)(i j:Nat):Pm n (kas_rev p i j):=(Array.perm_iff_toList_perm.mp (mirror_perm p i j ((j-i) / 2))).trans h
theorem Pm.bub{n:Nat}{p:Array Nat}(h:Pm n p)(i j:Nat):Pm n (bubble p i j):=(Array.perm_iff_toList_perm.mp (bubble_perm p i j)).trans h
theorem Pm.start(n:Nat):Pm n (toArray (List.range n)):=by
 unfold Pm;exact List.Perm.refl _
section
variable{n:Nat}{p:Array Nat}
theorem lP(h:Pm n p)(hn:0<n):∀f m:Nat,KOk n (λ_=>True) (kas_asc p f m)
 |0,_=>trivial
 |f+1,m=>⟨h.lt hn _,h.lt hn _,λb=>KOk.ite trivial (lP h hn f (m+1))⟩
theorem gJ(hn:0<n):∀(f:Nat)(p:Array Nat)(m q:Nat),Pm n p->KOk n (λr=>Pm n r.1) (kas_desc f p m q)
 |0,_,_,_,h=>h
 |f+1,p,m,q,h=>⟨h.lt hn _,h.lt hn _,λb=>KOk.ite (KOk.ite (gJ hn f _ _ _ (h.rev _ _)) (gJ hn f _ _ _ h)) ⟨h.lt hn _,h.lt hn _,λd=>KOk.ite h (gJ hn f _ _ _ h)⟩⟩
theorem uR(h:Pm n p)(hn:0<n)(k m:Nat):KOk n (λr=>Pm n r.2) (kas_tail3 k m p):=
 KOk.bind (KOk.imp (λ_ _=>h.rev _ _) (lP (h.rev 0 k) hn _ _))
theorem uS(h:Pm n p)(hn:0<n)(k m:Nat):KOk n (λr=>Pm n r.2) (kas_descPart k m p):=
 KOk.bind (KOk.imp (λr hr=>KOk.ite (uR (hr.rev _ _) hn _ _) (uR hr hn _ _)) (gJ hn _ p _ _ h))
theorem EG(h:Pm n p)(hn:0<n)(m:Nat):KOk n (λr=>Pm n r.2) (kas_count m p):=by
 unfold kas_count;refine KOk.bind (KOk.imp (λk _=>?_) (lP h hn _ _));refine KOk.ite ?_ (KOk.ite ?_ (uS h hn _ _))
 ·exact h
 ·refine⟨h.lt hn _,h.lt hn _,λb=>KOk.ite ?_ (uS (h.rev _ _) hn _ _)⟩
  exact h
theorem lQ(h:Pm n p)(hn:0<n)(k:Nat):∀f l r:Nat,KOk n (λ_=>True) (kas_place p k f l r)
 |0,_,_=>trivial
 |f+1,l,r=>KOk.ite trivial ⟨h.lt hn _,h.lt hn _,λb=>KOk.ite (lQ h hn k f _ _) (lQ h hn k f _ _)⟩
theorem uT(hn:0<n):∀(f:Nat)(p:Array Nat)(k:Nat),Pm n p->KOk n (Pm n) (kas_bin f p k)
 |0,_,_,h=>h
 |f+1,p,k,h=>KOk.bind (KOk.imp (λl _=>uT hn f _ _ (h.bub _ _)) (lQ h hn k k 0 k))
theorem uU(hn:0<n):KOk n (Pm n) (kas_sort n):=by
 unfold kas_sort;refine KOk.bind (KOk.imp (λr hr=>?_) (EG (Pm.start n) hn n));refine KOk.ite (uT hn _ _ _ hr) ?_;exact hr
end
end Rg
namespace Rg
open PySem L2
mutual
inductive Th where
 |num (i:Int)
 |word (x:Str)
 |row (l:Ts)
 |dic (l:Ts)
inductive Ts where
 |nil
 |cons (k:Str) (t:Th) (r:Ts)
end
mutual
def Th.size:Th->Nat
 |.num _=>1
 |.word _=>1
 |.row l=>l.size+1
 |.dic l=>l.size+1
def Ts.size:Ts->Nat
 |.nil=>0
 |.cons _ t r=>t.size+r.size
end
def Ts.len:Ts->Nat
 |.nil=>0
 |.cons _ _ r=>r.len+1
def Ts.keys:Ts->List Str
 |.nil=>[]
 |.cons k _ r=>k::r.keys
def Ts.put(k:Str)(t:Th):Ts->Ts
 |.nil=>.cons k t .nil
 |.cons j u r=>if j=k then .cons j t r else .cons j u (r.put k t)
def Ts.app:Ts->Ts->Ts
 |.nil,m=>m
 |.cons k t r,m=>.cons k t (r.app m)
mutual
def Rep(H:Hp):Th->V->Prop
 |.num i,v=>v=.int i
 |.word x,v=>v=.str x
 |.row l,v=>∃a xs,v=.ref a/\H a=some (.lst xs)/\RepR H l xs
 |.dic l,v=>∃a kvs,v=.ref a/\H a=some (.dK kvs)/\RepD H l kvs
def RepR(H:Hp):Ts->List V->Prop
 |.nil,xs=>xs=[]
 |.cons _ t r,xs=>∃y ys,xs=y::ys/\Rep H t y/\RepR H r ys
def RepD(H:Hp):Ts->List (B1×V)->Prop
 |.nil,kvs=>kvs=[]
 |.cons k t r,kvs=>∃y ys,kvs=(Sum.inr k,y)::ys/\Rep H t y/\RepD H r ys
end
mutual
theorem Rep.mono{H H':Hp}(e:Same H H'):∀{t:Th}{v:V},Rep H t v->Rep H' t v
 |.num _,_,h=>h
 |.word _,_,h=>h
 |.row l,_,h=>by
  obtain⟨a,xs,h1,h2,h3⟩:=(h:∃a xs,_=V.ref a/\H a=some (.lst xs)/\RepR H l xs);exact⟨a,xs,h1,e _ _ h2,RepR.mono e h3⟩
 |.dic l,_,h=>by
  obtain⟨a,kvs,h1,h2,h3⟩:=(h:∃a kvs,_=V.ref a/\H a=some (.dK kvs)/\RepD H l kvs);exact⟨a,kvs,h1,e _ _ h2,RepD.mono e h3⟩
theorem RepR.mono{H H':Hp}(e:Same H H'):∀{l:Ts}{xs:List V},RepR H l xs->RepR H' l xs
 |.nil,_,h=>h
 |.cons _ t r,_,h=>by
  obtain⟨y,ys,h1,h2,h3⟩:=(h:∃y ys,_=y::ys/\Rep H t y/\RepR H r ys);exact⟨y,ys,h1,Rep.mono e h2,RepR.mono e h3⟩
theorem RepD.mono{H H':Hp}(e:Same H H'):∀{l:Ts}{kvs:List (B1×V)},RepD H l kvs->RepD H' l kvs
 |.nil,_,h=>h
 |.cons _ t r,_,h=>by
  obtain⟨y,ys,h1,h2,h3⟩:=(h:∃y ys,_=(Sum.inr _,y)::ys/\Rep H t y/\RepD H r ys);exact⟨y,ys,h1,Rep.mono e h2,RepD.mono e h3⟩
end
def Ts.get(k:Str):Ts->Option Th
 |.nil=>none
 |.cons j t r=>if j=k then some t else r.get k
def Ts.ths:Ts->List Th
 |.nil=>[]
 |.cons _ t r=>t::r.ths
theorem Ts.keys_len:∀l:Ts,l.keys.length=l.len
 |.nil=>rfl
 |.cons _ _ r=>congrArg (· + 1) (Ts.keys_len r)
theorem RepR.len{H:Hp}:∀{l:Ts}{xs:List V},RepR H l xs->xs.length=l.len
 |.nil,xs,h=>by rw[(h:xs=[])];rfl
 |.cons k t r,xs,h=>by
  obtain⟨y,ys,rfl,_,h3⟩:=(h:∃y ys,xs=y::ys/\Rep H t y/\RepR H r ys);exact congrArg (· + 1) (RepR.len h3)
theorem RepD.len{H:Hp}:∀{l:Ts}{xs:List (B1×V)},RepD H l xs->xs.length=l.len
 |.nil,xs,h=>by rw[(h:xs=[])];rfl
 |.cons k t r,xs,h=>by
  obtain⟨y,ys,rfl,_,h3⟩:=(h:∃y ys,xs=(Sum.inr k,y)::ys/\Rep H t y/\RepD H r ys);exact congrArg (· + 1) (RepD.len h3)
theorem RepD.keys{H:Hp}:∀{l:Ts}{xs:List (B1×V)},RepD H l xs->xs.map (·.1)=l.keys.map Sum.inr
 |.nil,xs,h=>by rw[(h:xs=[])];rfl
 |.cons k t r,xs,h=>by
  obtain⟨y,ys,rfl,_,h3⟩:=(h:∃y ys,xs=(Sum.inr k,y)::ys/\Rep H t y/\RepD H r ys);show Sum.inr k::ys.map (·.1)=Sum.inr k::r.keys.map Sum.inr;rw[RepD.keys h3]
theorem RepR.at{H:Hp}:∀{l:Ts}{xs:List V},RepR H l xs->∀(i:Nat)(y:V),xs[i]?=some y->∃t,l.ths[i]?=some t/\Rep H t y
 |.nil,xs,h,i,y,e=>by rw[(h:xs=[])]at e;simp at e
 |.cons k t r,xs,h,i,y,e=>by
  obtain⟨z,zs,rfl,h2,h3⟩:=(h:∃y ys,xs=y::ys/\Rep H t y/\RepR H r ys);cases i with
  |zero=>
   have e':z=y:=by simpa using e
   subst e';exact⟨t,rfl,h2⟩
  |succ i=>
   obtain⟨u,g1,g2⟩:=RepR.at h3 i y (by simpa using e);exact⟨u,by simpa [Ts.ths]using g1,g2⟩
theorem RepD.val{H:Hp}:∀{l:Ts}{kvs:List (B1×V)},RepD H l kvs->∀{k:Str}{t:Th},l.get k=some t->∃y,M5 kvs (Sum.inr k)=some y/\Rep H t y
 |.nil,kvs,h,k,t,e=>by cases e
 |.cons j u r,kvs,h,k,t,e=>by
  obtain⟨y,ys,rfl,h2,h3⟩:=(h:∃y ys,kvs=(Sum.inr j,y)::ys/\Rep H u y/\RepD H r ys);have e':(if j=k then some u else r.get k)=some t:=e;unfold M5;rw[find?_cons];by_cases hj:j=k
  ·rw[if_pos hj]at e'
   cases e';subst hj;exact⟨y,!2,h2⟩
  ·rw[if_neg hj]at e'
   obtain⟨z,g1,g2⟩:=RepD.val h3 e';refine⟨z,?_,g2⟩;have hd:decide ((Sum.inr j:B1)=Sum.inr k)=false:=decide_eq_false λq=>hj (Sum.inr.inj q)
   simp only[hd];exact g1
end Rg
namespace Rg
open PySem PySem.W PySem.Spec PyProof.Rows L2
abbrev bH(X:Cx):Cx:={X with A:=X.A.in1.in1}
theorem EH{X:Cx}(o:X.Ok):(bH X).Ok:=⟨o.mod,o.kind,o.glob,o.blt,o.above,o.inj,o.has,o.cab,o.hd,o.frames,o.stk,o.exf,o.bs,o.bsz,o.noex,o.exfs,o.funs,o.frf⟩
theorem EI{X:Cx}(o:(bH X).Ok):X.Ok:=⟨o.mod,o.kind,o.glob,o.blt,o.above,o.inj,o.has,o.cab,o.hd,o.frames,o.stk,o.exf,o.bs,o.bsz,o.noex,o.exfs,o.funs,o.frf⟩
theorem uV{X:Cx}{ζ:List (Addr×Obj)}{σ:L2.St}{H:Hp}{s:Shared}(I:Inv X ζ σ H s):Inv (bH X) ζ σ H s:=
 ⟨EH I.ok,I.os,I.bare,I.base,I.loc,I.cell,I.free,I.freeC,I.pin,I.hok,I.len⟩
theorem uW{X:Cx}{ζ:List (Addr×Obj)}{σ:L2.St}{H:Hp}{s:Shared}(I:Inv (bH X) ζ σ H s):Inv X ζ σ H s:=
 ⟨EI I.ok,I.os,I.bare,I.base,I.loc,I.cell,I.free,I.freeC,I.pin,I.hok,I.len⟩
def M9(x:Str):List V:=[.int x.length,.str x]
def X3:Sp:=λvs H Q _=>∃x:Str,vs=[.str x]/\x.length<=1000/\∀p,H p=none->Q (.ref p) (upd H p (.tup (M9 x)))
def KeysAre(H:Hp):List Str->List Value->Prop:=Paired λx u=>∃p,u=Value.ref p/\H p=some (.tup (M9 x))
theorem KeysAre.mono{H H':Hp}(e:Same H H'){xs:List Str}{us:List Value}(h:KeysAre H xs us):KeysAre H' xs us:=
 Paired.mapP h λ_ _ ⟨p,h1,h2⟩=>⟨p,h1,e _ _ h2⟩
theorem KeysAre.snoc{H:Hp}{x:Str}{u:Value}:∀{xs:List Str}{us:List Value},KeysAre H xs us->(∃p,u=Value.ref p/\H p=some (.tup (M9 x)))->KeysAre H (xs++[x]) (us++[u])
 |_,_,.nil,h=>.cons h .nil
 |_,_,.cons r t,h=>.cons r (KeysAre.snoc t h)
theorem B2{H:Hp}{p:Addr}(h:H p=none)(o:HO):Same H (upd H p o):=λb u q=>by rw[B4 (E5 q h)];exact q
section
variable{X:Cx}{ζ:List (Addr×Obj)}{σ:L2.St}{H:Hp}{s:Shared}
theorem aC{b:Addr}{h':Heap}{t':Nat}(I:Inv X ζ σ H s)(f:G6 X ζ H b)(k:∀c o,c≠b->s.heap.get? c=some o->h'.get? c=some o):Inv X ζ σ H {s with heap:=h',toks:=t'}:=
 I.turned k f.1 f.2.1 f.2.2.2.1 f.2.2.2.2.1 f.2.2.2.2.2
theorem gK{b:Addr}{o:Obj}(I:Inv X ζ σ H s)(f:G6 X ζ H b)(e:s.heap.get? b=some o)(d:∀v,o.data≠.cell v):Inv X (ζ++[(b,o)]) σ H s:=
 I.pins_of λp hp=>(mem_append.mp hp).elim (λz=>I.pin p (mem_append_right _ z)) λz=>by
  have q:p=(b,o):=by simpa using z
  subst q;exact⟨e,f.1,f.2.1,f.2.2.1,d⟩
theorem cY{q:Addr×Obj}(I:Inv X (ζ++[q]) σ H s):Inv X ζ σ H s:=I.pins_of λp hp=>I.pin p (mem_append_right _ (mem_append_left _ hp))
theorem cZ{b:Addr}{o:Obj}(I:Inv X (ζ++[(b,o)]) σ H s):s.heap.get? b=some o/\H b=none:=by
 have z:=I.pin (b,o) (mem_append_right _ (mem_append_right _ (mem_singleton.mpr rfl)));exact⟨z.1,z.2.1⟩
theorem gL{H':Hp}{b:Addr}(f:G6 X ζ H b)(h:H' b=none):G6 X ζ H' b:=⟨h,f.2⟩
theorem lR{b c:Addr}{o:Obj}(f:G6 X ζ H b)(h:c≠b):G6 X (ζ++[(c,o)]) H b:=
 ⟨f.1,f.2.1,f.2.2.1,f.2.2.2.1,f.2.2.2.2.1,λp hp=>by
  rcases mem_append.mp hp with hp|hp
  ·exact f.2.2.2.2.2 p (mem_append_left _ hp)
  ·rcases mem_append.mp hp with hp|hp
   ·exact f.2.2.2.2.2 p (mem_append_right _ hp)
   ·have q:p=(c,o):=by simpa using hp
    subst q;exact h⟩
end
theorem EJ{P:Program}{w:World}{A:Around}{E:Value->Shared->Prop}{s:Shared}{H:Hp}{xs:List Str}{us:List Value}{Q:SortKind->Shared->Prop}(hok:HOk P w H s.heap)(k:KeysAre H xs us)(hl:0<us.length)(h:Q (tuples' true) s):
  wpAny (model P w) A (keyKind' us.toArray) Q E s:=by
 have key:∀{xs:List Str}{us:List Value},KeysAre H xs us->∃fs,KatTups s.heap us fs/\fs.length=us.length/\∀v∈fs,∃(i:Int)(t:Tok),v=Value.int i t:=by
  intro xs us k
  induction k with
  |nil=>exact⟨[],KatTups.nil,rfl,λv hv=>absurd hv (!2)⟩
  |cons r _ ih=>
   obtain⟨p,rfl,hp⟩:=r;obtain⟨fs,h1,h2,h3⟩:=ih;obtain⟨_,ws,rw',⟨oy,ey,cy,ny,dy⟩⟩:=hok p _ hp;obtain⟨w1,w2,rfl,⟨t3,rfl⟩,⟨t4,rfl⟩⟩:=Vals.two rw';refine⟨_::fs,KatTups.cons ey cy dy rfl h1,by rw[length_cons,length_cons,h2],λv hv=>?_⟩;rcases mem_cons.mp hv with rfl|hv
   ·exact⟨_,_,rfl⟩
   ·exact h3 v hv
 obtain⟨fs,h1,h2,h3⟩:=key k;refine kat_kind (T:=.type "int") h1 (!1) (λv hv=>?_) (!3) (by rw[show(Value.type "int" != Value.type "tuple")=true by decide];exact h);obtain⟨i,t,rfl⟩:=h3 v hv;exact λA Q E s' _ q=>wpAny_typeOf (typeIs_int s' i t) q
end Rg
namespace Rg
open PySem PySem.W PySem.Spec PyProof.Rows L2
theorem EK:typeLookup (.type "list_reverseiterator") "__len__"=pure none:=by
 rw[typeLookup_type,builtinLookup_eq_fast]
 kernel_rfl
theorem EL:typeLookup (.type "list_reverseiterator") "__length_hint__"=pure (some (.builtin "list_reverseiterator.__length_hint__")):=by
 rw[typeLookup_type,builtinLookup_eq_fast]
 kernel_rfl
section
variable{prog:Program}{w:World}{A:Around}{E:Value->Shared->Prop}{s:Shared}
theorem EM{r:Addr}{Q:Bool->Shared->Prop}(hT:s.TypeIs (.ref r) "list_reverseiterator")(h:Q false s):wpAny (model prog w) A (Builtin.List.listLengthHint (.ref r)) Q E s:=by
 unfold Builtin.List.listLengthHint;refine wpAny_bind (wpAny_specialOf hT EK ?_);show wpAny _ _ (specialOf (Value.ref r) (Str.ofString "__length_hint__") >>= _) _ _ s;refine wpAny_bind (wpAny_specialOf hT EL ?_);generalize hid:("list_reverseiterator.__length_hint__" : String)=id0
 wp_delta
 rw[show splitId id0=some ("list_reverseiterator","__length_hint__")from by subst hid;decide +kernel];subst hid;refine wpAny_bind (wpAny_isInstance (b:=true) hT (by rw[isSubtype_type];kernel_rfl) ?_);exact wpAny_pure h
theorem EN{items acc:Array Value}(h:ItemsOf (λi v=>items[items.size-1-i]?=some v) acc items.size):acc.toList=items.toList.reverse:=by
 obtain⟨h1,h2⟩:=h;apply List.ext_getElem?;intro j;by_cases hj:j<acc.size
 ·have e:=h2 j acc[j] (by simp[hj])
  rw[Array.getElem?_toList,Array.getElem?_eq_getElem hj,getElem?_reverse (by rw[Array.length_toList,←h1];exact hj),Array.length_toList,Array.getElem?_toList];exact e.symm
 ·rw[getElem?_eq_none (by rw[Array.length_toList];omega),getElem?_eq_none (by rw[length_reverse,Array.length_toList];omega)]
theorem EO{R:Result->Shared->Prop}{it l S:Addr}{items:Array Value}{res:Value}{c₀:Nat}(hh:A.handled=none)(hit:s.heap.IsRevIter it l ((items.size:Int)-1))(hl:s.heap.IsList l items)(hli:l≠it)(hSl:S≠l)(hSi:S≠it)
  (hS:s.heap.get? S=some {cls:=.type "list",data:=.seq #[] c₀}) (hn:items.size<=sizeLine)
  (hR:∀h' tk acc c,(∀b o,b≠S->b≠it->s.heap.get? b=some o->h'.get? b=some o)->h'.get? S=some {cls:=.type "list",dict:=none,data:=.seq acc c,slots:=#[]}->acc.toList=items.toList.reverse->R (.ok (.ret res)) {s with heap:=h',toks:=tk}):
  wpAny (model prog w) A.in1 (Builtin.List.listExtendWith (.ref S) (.ref it) res)
   (λfin s'=>match fin with|.done f=>R (.ok f) s'|.again c'=>c'.quiet=true/\codeAny (model prog w) A c' R s') (λe s'=>R (.error e) s') s:=by
 have W:=Walks.listRev (prog:=prog) (w:=w) (A:=A.in1) hh it l hli items;have hSf:S∉[it,l]:=by
  intro z;rcases mem_cons.mp z with z|z
  ·exact hSi z
  ·exact hSl (mem_singleton.mp z)
 have h0:((items.size:Int)-1-((0:Nat):Int))=(items.size:Int)-1:=by omega
 have h1:Builtin.List.listSameRef (.ref S) (.ref it)=false:=by simp[Builtin.List.listSameRef,hSi]
 unfold Builtin.List.listExtendWith;refine wpAny_bind (wpAny_typeOf hit.typeIs ?_);rw[if_neg (by rw[h1];decide)];refine wpAny_bind (wpAny_pyIter_revIter hit ?_);refine wpAny_bind (wpAny_holding (EM hit.typeIs ?_));rw[if_neg (!3)];refine wpAny_pure ⟨plainId_quiet PySem.F.plain_extend_loop _,codeAny_extend_loopS W.toS hn S hSf res items.size 0 s #[] c₀ rfl (zero_le _) ⟨zero_le _,by rw[h0];exact hit,hl⟩ hS (ItemsOf.nil _) λs' acc c hm hS' hacc=>?_⟩;rw[Moved.eq_with hm];refine hR s'.heap s'.toks acc c (λb o hb hb2 q=>hm.heap b o (λz=>?_) q) hS' (EN hacc);rcases mem_cons.mp z with z|z
 ·exact hb z
 ·exact hb2 (mem_singleton.mp z)
theorem EQ{R:Result->Shared->Prop}{it l S:Addr}{items:Array Value}(hh:A.handled=none)(hit:s.heap.IsRevIter it l ((items.size:Int)-1))(hl:s.heap.IsList l items)(hli:l≠it)(hSl:S≠l)(hSi:S≠it)
  (hS:s.heap.get? S=some {cls:=.type "list",data:=.seq #[]}) (hn:items.size<=sizeLine)
  (hR:∀h' tk acc c,(∀b o,b≠S->b≠it->s.heap.get? b=some o->h'.get? b=some o)->h'.get? S=some {cls:=.type "list",dict:=none,data:=.seq acc c,slots:=#[]}->acc.toList=items.toList.reverse->R (.ok (.ret .none)) {s with heap:=h',toks:=tk}):
  wpAny (model prog w) A.in1 (Builtin.«list.__init__» ⟨[.ref S,.ref it],[]⟩)
   (λfin s'=>match fin with|.done f=>R (.ok f) s'|.again c'=>c'.quiet=true/\codeAny (model prog w) A c' R s') (λe s'=>R (.error e) s') s:=by
 show wpAny _ _ (do let old ←Builtin.List.listItems (.ref S);Builtin.List.listUpdate (.ref S) (λ_=>#[]);letGo old.toList.reverse;Builtin.List.listExtendWith (.ref S) (.ref it) .none) _ _ s;refine wpAny_bind (listItems_at hS rfl ?_);refine wpAny_bind (listUpdate_at hS rfl ?_ (zero_le _) (zero_le _));have hS₂:=Heap.get?_update_self (Obj.mapSeq (λ_=>(#[]:Array Value))) hS rfl;have oth:∀b o,b≠S->s.heap.get? b=some o->(s.heap.update S (Obj.mapSeq (λ_=>(#[]:Array Value)))).get? b=some o:=λb o hb q=>(Heap.get?_update_other _ _ (Ne.symm hb)).trans q
 obtain⟨ol,el,rl⟩:=hl;refine wpAny_bind (wpAny_letGo ?_);refine EO (items:=items) hh (hit.at λo q=>oth _ o (Ne.symm hSi) q) ⟨ol,oth _ _ (Ne.symm hSl) el,rl⟩ hli hSl hSi hS₂ hn λh' tk acc c hk hS' hacc=>?_
 exact hR h' tk acc c (λb o hb hb2 q=>hk b o hb hb2 (oth b o hb q)) hS' hacc
theorem ER{Q:Value->Shared->Prop}{it l:Addr}{items:Array Value}(hh:A.handled=none)(hit:s.heap.IsRevIter it l ((items.size:Int)-1))(hl:s.heap.IsList l items)(hli:l≠it)(hn:items.size<=sizeLine)
  (hQ:∀h' tk acc c,(∀b o,b≠it->s.heap.get? b=some o->h'.get? b=some o)->h'.get? s.heap.objs.size=some {cls:=.type "list",dict:=none,data:=.seq acc c,slots:=#[]}->acc.toList=items.toList.reverse->Q (.ref s.heap.objs.size) {s with heap:=h',toks:=tk}):
  wpAny (model prog w) A (call (.type "list") [.ref it]) Q E s:=by
 refine callType_codes (Q₁:=λobj s₁=>obj=.ref s.heap.objs.size/\s₁={s with heap:=s.heap.push {cls:=.type "list",data:=.seq #[]} }) PySem.F.called_list (PySem.F.typeCall_list_1 _) PySem.F.entry_list_init (code_list_new _ ⟨rfl,rfl⟩) λobj s₁ h₁=>?_
 obtain⟨rfl,rfl⟩:=h₁;have hS:(s.heap.push {cls:=.type "list",data:=.seq #[]}).get? s.heap.objs.size=some {cls:=.type "list",data:=.seq #[]}:=Heap.get?_push_size _ rfl;obtain⟨oi,ei,_⟩:=id hit;obtain⟨ol,el,rl⟩:=id hl;refine⟨⟨_,hS,rfl⟩,PySem.F.args_list_init_2 _ _,EQ (A:=A.in1) (items:=items) hh (hit.at λo q=>Heap.get?_push_of_some _ q) ⟨ol,Heap.get?_push_of_some _ el,rl⟩ hli (ne_of_gt (Heap.lt_size el)) (ne_of_gt (Heap.lt_size ei)) hS hn (λh' tk acc c hk hS' hacc=>?_)⟩;exact⟨rfl,hQ h' tk acc c (λb o hb q=>hk b o (ne_of_lt (Heap.lt_size q)) hb (Heap.get?_push_of_some _ q)) hS' hacc⟩
end
section
variable{X:Cx}{ζ:List (Addr×Obj)}{σ:L2.St}{H:Hp}{s:Shared}{D:Addr}
theorem gM{o:HO}(I:Inv X ζ σ H s)(f:G6 X ζ H D)(hz:X.s₀.heap.objs.size<=D)(ok:ObjOk X.prog X.w (upd H D o) s.heap D o):Inv X ζ σ (upd H D o) s:=by
 obtain⟨f0,f1,f2,f3,f4,f5⟩:=f;refine⟨I.ok,I.os,I.bare,uQ I.base hz hz f0 (.refl D s.heap),I.loc,I.cell,by rw[B4 (Ne.symm f1)];exact I.free,λy c q=>by rw[B4 (f4 y c q)];exact I.freeC y c q,λp hp=>?_,λa u q=>?_,I.len⟩
 ·obtain⟨z1,z2,z3⟩:=I.pin p hp
  exact⟨z1,by rw[B4 (f5 p hp)];exact z2,z3⟩
 ·by_cases ha:a=D
  ·subst ha
   rw[A6]at q;cases q;exact ok
  ·rw[B4 ha]at q
   exact(I.hok a u q).stay (λb v _ q'=>q') (λb z=>by rw[B4 (E5 z f0)];exact z) λb xs z=>by rw[B4 (E5 z f0)];exact z
end
section
variable{X:Cx}{e:Expr}{te:TE}{p p2 pos pos2:Pos}
theorem ES(hc:X.calm=true)(hg:Gl X "list")(hm:X.mg "list"=none)(hg2:Gl X "reversed")(hm2:X.mg "reversed"=none)(he:PE X e te)(h0:starEach [e] X.env=[(false,eval e X.env)]:=by rfl)
  (h1:starEach [.Call (.Name "reversed" p2) [e] [] pos2] X.env=[(false,eval (.Call (.Name "reversed" p2) [e] [] pos2) X.env)]:=by rfl):
  PE X (.Call (.Name "list" p) [.Call (.Name "reversed" p2) [e] [] pos2] [] pos) (fun σ H Q=>te σ H λx H1=>∃a xs,x=.ref a/\SqL X.K H1 a xs/\∀p,H1 p=none->Q (.ref p) (upd H1 p (.lst xs.reverse))):=by
 intro ζ s σ H Q I h;refine wpAny_Call_Name_kw (X1 I hg hm boot_list ?_);refine PyProof.Rows.callWith_type1 ?_ (by rw[h1];rfl) rfl;rw[h1];show wpAny _ _ (spliced ((false,eval (.Call (.Name "reversed" p2) [e] [] pos2) X.env)::backTo pos [])) _ _ s;refine Calls.spliced_cons ?_;refine wpAny_Call_Name_kw (X1 I hg2 hm2 boot_reversed ?_);refine PyProof.Rows.callWith_type1 ?_ (by rw[h0];rfl) rfl;rw[h0];show wpAny _ _ (spliced ((false,eval e X.env)::backTo pos2 [])) _ _ s;refine Calls.spliced_cons (A9 (he ζ s σ H _ I h) λu s1 h9=>?_);obtain⟨x,H1,I1,ru,a,xs,ex,hq,q⟩:=h9;subst ex;cases ru;refine Calls.spliced_nil ?_;obtain⟨its,rv,pl,hz⟩:=I1.list hq;refine call_reversed_list pl.isList ?_;refine Calls.spliced_nil ?_;have hl:=rv.length;have hil:its.toArray.size<=sizeLine:=by rw[size_toArray,←hl];exact hz
 have I2:Inv X ζ σ H1 {s1 with heap:=s1.heap.push (revObj a ((its.toArray.size:Int)-1)),toks:=s1.toks}:=I1.kept λb o z=>Heap.get?_push_of_some _ z
 have fI:G6 X ζ H1 s1.heap.objs.size:=I1.fpOk (le_refl _) (I1.hok.fresh (le_refl _));have pl':(s1.heap.push (revObj a ((its.toArray.size:Int)-1))).IsList a its.toArray:=by
  obtain⟨ol,el,rl⟩:=pl.isList;exact⟨ol,Heap.get?_push_of_some _ el,rl⟩
 have hai:a≠s1.heap.objs.size:=by
  obtain⟨ol,el,rl⟩:=pl.isList;exact ne_of_lt (Heap.lt_size el)
 refine ER (items:=its.toArray) (I.ok.hd hc) ⟨_,Heap.get?_push_size _ rfl,rfl,rfl⟩ pl' hai hil λh' tk acc c hk hD hacc=>?_
 have I3:=aC (h':=h') (t':=tk) I2 fI λc' o hc' z=>hk c' o hc' z
 have fD:G6 X ζ H1 (s1.heap.push (revObj a ((its.toArray.size:Int)-1))).objs.size:=I2.fpOk (le_refl _) (I2.hok.fresh (le_refl _));refine⟨.ref _,upd H1 _ (.lst xs.reverse),gM I3 fD I2.sz ?_,rfl,q _ fD.1⟩;refine⟨by rw[length_reverse];exact hz,its.reverse,c,Vals.reverse rv,?_⟩;have ea:acc=its.reverse.toArray:=by
  apply Array.toList_inj.mp;rw[hacc]
 rw[ea]at hD;exact hD
end
end Rg
namespace Rg
open PySem PySem.W PySem.Spec PyProof.Rows L2
def gN(X:Cx)(id:String)(ks:List Str)(r:List V->List V->Hp->VK->Prop):Prop:=
 ∀(ζ:List (Addr×Obj))(s:Shared)(σ:L2.St)(H:Hp)(vs zs:List V)(us ws:List Value)(Q:VK),Inv X ζ σ H s->Vals vs us->Vals zs ws->r vs zs H Q->
  wpAny (model X.prog X.w) X.A (call (.builtin id) us (ks.zip ws)) (EP X ζ σ Q) X.xe s
section
variable{X:Cx}{x:Str}{id:String}{ks:List Str}{r:List V->List V->Hp->VK->Prop}{e:Expr}{es:List Expr}{kws:List Keyword}{t tk:TA}{p pos:Pos}
theorem uX(hc:gN X id ks r)(hg:Gl X x)(hm:X.mg x=none)(hv:bootBuiltins x=some (.builtin id))(ha:PA X (e::es) t)(hkw:PK X kws tk)(hks:(backToKw pos (keywordEach kws X.env)).filterMap (·.1)=ks:=by rfl)
  (hn:x≠"__name__":=by decide) (hdb:(x==("__debug__" : Str))=false:=by decide)
  (he:backTo pos (starEach (e::es) X.env)=(false,eval e X.env)::backTo pos (starEach es X.env):=by rfl) (hplain:(backTo pos (starEach (e::es) X.env)).any (·.1)=false:=by rfl)
  (hall:(backToKw pos (keywordEach kws X.env)).all (·.1.isSome)=true:=by rfl) (hkn:(backToKw pos (keywordEach kws X.env)).any (·.1.isNone)=false:=by rfl):
  PE X (.Call (.Name x p) (e::es) kws pos) (fun σ H Q=>t σ H λvs H1=>tk σ H1 λzs H2=>r vs zs H2 Q):=by
 intro ζ s σ H Q I h;refine wpAny_Call_Name_kw (X1 I hg hm hv ?_ hn hdb);refine callWith_kw (A9 (ha pos ζ s σ H _ I h) λus s1 ⟨vs,H1,I1,r1,q1⟩=>A9 (hkw pos ζ s1 σ H1 _ I1 q1) λws s2 ⟨zs,H2,I2,rz,q2⟩=>?_) he hplain hall hkn;rw[hks];exact hc ζ s2 σ H2 vs zs us ws Q I2 r1 rz q2
end
end Rg
namespace Rg
open PySem PySem.W PySem.Spec PyProof.Rows L2
section
variable{X:Cx}{ζ:List (Addr×Obj)}{σ:L2.St}{H:Hp}{s:Shared}{h':Heap}
theorem uY{t':Nat}{fp:List Addr}(I:Inv X ζ σ H s)(k:∀b o,b∉fp->s.heap.get? b=some o->h'.get? b=some o)(hf:∀b∈fp,G6 X ζ H b):Inv X ζ σ H {s with heap:=h',toks:=t'}:=by
 have nit:∀b u,H b=some u->b∉fp:=λb u e z=>by rw[(hf b z).1]at e;cases e
 refine I.step (g':=s.gens) (d':=s.drawn) (ch:=fp) (λb hb=>?_) (λb o _ _ hc e _=>k b o hc e) (λb o _ _ hc e _=>⟨o.slots,k b o hc e⟩) (λ_ _ _ _ n=>n)
  (λb o hc e=>⟨o,k b o hc e⟩) (λ_ _ e=>e) (λ_ _ _ e=>e) (λb ps e=>⟨#[],by rw[e];simp⟩) (λm hm=>?_) (λb u e=>?_) I.bare
 ·obtain⟨f0,f1,f2,f3,f4,f5⟩:=hf b hb
  exact⟨f3,f1,f4,f5⟩
 ·obtain⟨o,es,ep,ho,r⟩:=hm
  exact⟨o,es,ep,k _ o (λz=>(hf _ z).2.1 rfl) ho,r⟩
 ·refine(I.hok b u e).stay (λc v hc q=>k c v ?_ q) (λ_ q=>q) λ_ _ q=>q
  rcases hc with z|z
  ·rw[z];exact nit b u e
  ·exact nit c _ z
end
end Rg
namespace Rg
open PySem PySem.W PySem.Spec PyProof.Rows L2
section
variable{fr:List (Str×Nat)}{te:TE}{σ:L2.St}{H:Hp}{Q:VK}
theorem uZ{K:Frag}{a:Addr}{xs:List V}(Pv:Nat->List V->Hp->Prop)(hz:xs.length<=sizeLine)(h0:Pv 0 [] H)(hl:∀i ys H,i<=xs.length->Pv i ys H->SqL K H a xs/\ys.length=i)
  (hs:∀i x ys H,xs[i]?=some x->Pv i ys H->te (lO (some x) fr σ) H λy H2=>Pv (i+1) (ys++[y]) H2) (hd:∀ys H,Pv xs.length ys H->∀p,H p=none->Q (.ref p) (upd H p (.lst ys))):
  ∃W:Nat->Nat->List V->Hp->Prop,(∃m,W 0 m [] H)/\∀i m ys H,W i m ys H->((aV K a).stop i H/\ys.length<=sizeLine/\∀p,H p=none->Q (.ref p) (upd H p (.lst ys)))∨
   ((aV K a).go i H/\ys.length<sizeLine/\∃N:V->Hp->Prop,(∀y H2,N y H2->∃m',m'<m/\W (i+1) m' (ys++[y]) H2)/\∀v H',(aV K a).yld i H v H'->te (lO (some v) fr σ) H' N):=by
 refine⟨λi m ys H=>m=xs.length-i/\i<=xs.length/\Pv i ys H,⟨xs.length,!2,zero_le _,h0⟩,?_⟩;rintro i m ys H ⟨rfl,hi,p⟩;obtain⟨q,hy⟩:=hl i ys H hi p;by_cases hlt:i<xs.length
 ·refine .inr ⟨⟨xs,xs[i],q,by simp[hlt]⟩,!1,λy H2=>Pv (i+1) (ys++[y]) H2,λy H2 p'=>⟨xs.length-(i+1),!1,rfl,hlt,p'⟩,λx H' y=>?_⟩
  obtain⟨rfl,y⟩:=y;exact hs i x ys _ (y xs q) p
 ·have e:i=xs.length:=by omega
  subst e;exact .inl ⟨⟨xs,q,le_refl _⟩,!1,hd ys H p⟩
end
end Rg
namespace Rg
open PySem PySem.SeqAt
open AutoSeq1 (wpAny_loadPart')
open MeetsSeq MeetsSeq2 MeetsSeq3 SeqRoads2
def EqIn(P:Program)(w:World)(A:Around)(s:Shared)(y x:Value):Prop:=
 ∀(E:Value->Shared->Prop)(Q:Bool->Shared->Prop),Q true s->wpAny (model P w) A (eqBool y x) Q E s
theorem EqIn.of{P:Program}{w:World}{A:Around}{s:Shared}{y x:Value}(h:EqAt A s y x true):EqIn P w A s y x:=λE Q q=>h P w E Q q
theorem EqIn.refs{P:Program}{w:World}{A:Around}{s:Shared}{l b:Addr}(h:∀(E:Value->Shared->Prop) (Q:Value->Shared->Prop),Q (.bool true) s->wpAny (model P w) A (richCompare .Eq (.ref l) (.ref b)) Q E s):EqIn P w A s (.ref l) (.ref b):=by
 intro E Q q;by_cases e:l=b
 ·subst e
  exact EqAt.same (.ref l) P w E Q q
 ·unfold eqBool
  refine wpAny_holding ?_;refine wpAny_ite_split (λhab=>absurd (by have z:=eq_of_beq hab;injection z) e) (λ_=>?_);exact wpAny_bind (h E _ (wpAny_truthy_bool q))
section
variable{P:Program}{w:World}{l b:Addr}{items items2:Array Value}{n n2:Nat}{dd dd2:Option Addr}{sl sl2:Array (Option Value)}
def gO(P:Program)(w:World)(l b:Addr)(items items2:Array Value)(n n2:Nat)(dd dd2:Option Addr)(sl sl2:Array (Option Value))(r:Bool):Spec:=λA R s=>
 s.heap.get? l=some {cls:=.type "list",dict:=dd,data:=.seq items n,slots:=sl}/\s.heap.get? b=some {cls:=.type "list",dict:=dd2,data:=.seq items2 n2,slots:=sl2}/\
  (∀j (h1:j<items.size) (h2:j<items2.size),EqIn P w A.in1 s items[j] items2[j])/\R (.ok (.ret (.bool r))) s
theorem ET(hsz:items.size=items2.size)(k:Nat):∀i:Nat,items.size-i=k->MeetsIn P w (Builtin.«list.__eq__.loop» ⟨[.ref l,.ref b,rawInt i,rawInt 2],[]⟩) (gO P w l b items items2 n n2 dd dd2 sl sl2 true):=by
 induction k with
 |zero=>
  intro i hk A R s h;obtain⟨hp,g,d,tk,os⟩:=s;obtain⟨hl,hb,he,h⟩:=h
  wp_walk using wpAny_loadPart' hl,wpAny_loadPart' hb
  have g1:items[((i:Nat):Int).toNat]?=none:=by simp;omega
  have g2:items2[((i:Nat):Int).toNat]?=none:=by simp;omega
  rw[g1,g2]
  wp_walk using wpAny_loadPart' hl,wpAny_loadPart' hb
  show R (.ok (.ret (.bool (items.size==items2.size)))) _;rw[hsz];simpa using h
 |succ k ih=>
  intro i hk A R s h;obtain⟨hp,g,d,tk,os⟩:=s;obtain⟨hl,hb,he,h⟩:=h
  wp_walk using wpAny_loadPart' hl,wpAny_loadPart' hb
  have q1:i<items.size:=by omega
  have q2:i<items2.size:=by omega
  have g1:items[((i:Nat):Int).toNat]?=some items[i]:=by simp[q1]
  have g2:items2[((i:Nat):Int).toNat]?=some items2[i]:=by simp[q2]
  have hc:((i:Int)+1)=((i+1:Nat):Int):=by omega
  rw[g1,g2];refine wpAny_bind (he i q1 q2 _ _ ?_)
  wp_walk
  rw[hc];refine⟨plainId_quiet plain_eq_loop _,codeAny_builtin entry_eq_loop ?_⟩;rw[Around.under_plainId plain_eq_loop _];exact ih (i+1) (!1) A R _ ⟨hl,hb,he,h⟩
theorem EU(hsz:items.size=items2.size)(k:Nat):∀i:Nat,items.size-i=k->MeetsIn P w (Builtin.«list.__eq__.loop» ⟨[.ref l,.ref b,rawInt i,rawInt 3],[]⟩) (gO P w l b items items2 n n2 dd dd2 sl sl2 false):=by
 induction k with
 |zero=>
  intro i hk A R s h;obtain⟨hp,g,d,tk,os⟩:=s;obtain⟨hl,hb,he,h⟩:=h
  wp_walk using wpAny_loadPart' hl,wpAny_loadPart' hb
  have g1:items[((i:Nat):Int).toNat]?=none:=by simp;omega
  have g2:items2[((i:Nat):Int).toNat]?=none:=by simp;omega
  rw[g1,g2]
  wp_walk using wpAny_loadPart' hl,wpAny_loadPart' hb
  show R (.ok (.ret (.bool (items.size != items2.size)))) _;rw[hsz];simpa using h
 |succ k ih=>
  intro i hk A R s h;obtain⟨hp,g,d,tk,os⟩:=s;obtain⟨hl,hb,he,h⟩:=h
  wp_walk using wpAny_loadPart' hl,wpAny_loadPart' hb
  have q1:i<items.size:=by omega
  have q2:i<items2.size:=by omega
  have g1:items[((i:Nat):Int).toNat]?=some items[i]:=by simp[q1]
  have g2:items2[((i:Nat):Int).toNat]?=some items2[i]:=by simp[q2]
  have hc:((i:Int)+1)=((i+1:Nat):Int):=by omega
  rw[g1,g2];refine wpAny_bind (he i q1 q2 _ _ ?_)
  wp_walk
  rw[hc];refine⟨plainId_quiet plain_eq_loop _,codeAny_builtin entry_eq_loop ?_⟩;rw[Around.under_plainId plain_eq_loop _];exact ih (i+1) (!1) A R _ ⟨hl,hb,he,h⟩
theorem EV(hsz:items.size=items2.size):MeetsIn P w (Builtin.«list.__eq__» ⟨[.ref l,.ref b],[]⟩) (gO P w l b items items2 n n2 dd dd2 sl sl2 true):=by
 intro A R s h;obtain⟨hp,g,d,tk,os⟩:=s;obtain⟨hl,hb,he,h⟩:=h;have f3:=AutoSeq1.sub_list_list;have hne:¬(items.size != items2.size)=true:=by simp[hsz]
 wp_walk using wpAny_loadPart' hl,wpAny_loadPart' hb
 refine⟨plainId_quiet plain_eq_loop _,codeAny_builtin entry_eq_loop ?_⟩;rw[Around.under_plainId plain_eq_loop _];exact ET hsz _ 0 rfl A R _ ⟨hl,hb,he,h⟩
theorem EW(hsz:items.size=items2.size):MeetsIn P w (Builtin.«list.__ne__» ⟨[.ref l,.ref b],[]⟩) (gO P w l b items items2 n n2 dd dd2 sl sl2 false):=by
 intro A R s h;obtain⟨hp,g,d,tk,os⟩:=s;obtain⟨hl,hb,he,h⟩:=h;have f3:=AutoSeq1.sub_list_list;have hne:¬(items.size != items2.size)=true:=by simp[hsz]
 wp_walk using wpAny_loadPart' hl,wpAny_loadPart' hb
 refine⟨plainId_quiet plain_eq_loop _,codeAny_builtin entry_eq_loop ?_⟩;rw[Around.under_plainId plain_eq_loop _];exact EU hsz _ 0 rfl A R _ ⟨hl,hb,he,h⟩
end
section
variable{P:Program}{w:World}{A:Around}{E:Value->Shared->Prop}{s:Shared}{l b:Addr}{items items2:Array Value}{Q:Value->Shared->Prop}
theorem vA(hl:s.heap.IsList l items)(hb:s.heap.IsList b items2)(hsz:items.size=items2.size)(hu:A.units<cLine)(he:∀j (h1:j<items.size) (h2:j<items2.size),EqIn P w A.in1 s items[j] items2[j])(h:Q (.bool true) s):
  wpAny (model P w) A (richCompare .Eq (.ref l) (.ref b)) Q E s:=by
 obtain⟨⟨cls,dd,data,sl⟩,ho,hc,n,hd⟩:=id hl;obtain⟨⟨cls2,dd2,data2,sl2⟩,ho2,hc2,n2,hd2⟩:=id hb;simp only at hc hd hc2 hd2;subst hc hd hc2 hd2;refine wpAny_richCompare_same_room (op:=.Eq) (T:="list") ⟨_,ho,rfl⟩ ⟨_,ho2,rfl⟩ F.slot_list_eq (call_meetsIn F.slot_list_eq ⟨_,ho,rfl⟩ F.entry_list_eq (F.args_list_eq_2 _ _) (EV hsz) ⟨ho,ho2,he,?_⟩) hu;exact⟨(λx=>nomatch x),h⟩
theorem EX(hl:s.heap.IsList l items)(hb:s.heap.IsList b items2)(hsz:items.size=items2.size)(hu:A.units<cLine)(he:∀j (h1:j<items.size) (h2:j<items2.size),EqIn P w A.in1 s items[j] items2[j])(h:Q (.bool false) s):
  wpAny (model P w) A (richCompare .NotEq (.ref l) (.ref b)) Q E s:=by
 obtain⟨⟨cls,dd,data,sl⟩,ho,hc,n,hd⟩:=id hl;obtain⟨⟨cls2,dd2,data2,sl2⟩,ho2,hc2,n2,hd2⟩:=id hb;simp only at hc hd hc2 hd2;subst hc hd hc2 hd2;refine wpAny_richCompare_same_room (op:=.NotEq) (T:="list") ⟨_,ho,rfl⟩ ⟨_,ho2,rfl⟩ F.slot_list_ne (call_meetsIn F.slot_list_ne ⟨_,ho,rfl⟩ F.entry_list_ne (F.args_list_ne_2 _ _) (EW hsz) ⟨ho,ho2,he,?_⟩) hu;exact⟨(λx=>nomatch x),h⟩
end
end Rg
namespace Rg
open PySem PySem.SeqAt
section
variable{P:Program}{w:World}{K:Type}[DecidableEq K]{knd:KeyKind P w K}{A:Around}{E:Value->Shared->Prop}{s:Shared}{a b:Addr}{ka kb:List (K×Value)}
def gP(P:Program)(w:World)(A:Around)(s:Shared)(kb:List (K×Value))(l:List (K×Value)):Prop:=∀k v,(k,v)∈l->∃y,valueAt kb k=some y/\EqIn P w A s v y
theorem vB{nm:String}{Q:Bool->Shared->Prop}(ha:(a==sysModules)=false)(hb:(b==sysModules)=false)(da:s.heap.DictOf knd a ka)(db:s.heap.DictOf knd b kb)(hlen:ka.length=kb.length)(hits:gP P w A s kb ka)(h:Q true s):
  wpAny (model P w) A (Builtin.Dict.samePairs nm a b) Q E s:=by
 obtain⟨oa,es,ep,hoa,_,hda,hka,hpa,_⟩:=da;obtain⟨ob,fs,ep2,hob,_,hdb,hkb,hpb,_⟩:=db;have hla:ka.length=es.size:=by
  rw[←hpa.length];exact Array.length_toList
 have hlb:kb.length=fs.size:=by
  rw[←hpb.length];exact Array.length_toList
 have hsz:es.size=fs.size:=by omega
 have hfind:∀k,findBy knd.is fs k=valueAt kb k:=λk=>by
  rw[←hpb.find k];clear hlb hpb hkb hdb hob hsz;obtain⟨l⟩:=fs;simp[findBy]
 unfold Builtin.Dict.samePairs Builtin.Dict.showsAll;rw[if_neg (show ¬(a==sysModules)=true by rw[ha];decide),if_neg (show ¬(b==sysModules)=true by rw[hb];decide)];refine wpAny_bind (wpAny_pure ?_);refine wpAny_bind (wpAny_pure ?_);refine wpAny_bind (wpAny_dictEntries hoa hda ?_);dsimp only;refine wpAny_bind (wpAny_dictEntries hob hdb ?_);rw[if_neg (by rw[hsz];simp)];refine wpAny_bind (wpAny_dictEpoch hoa hda ?_);refine wpAny_bind ?_;rw[Std.Legacy.Range.forIn_eq_forIn_range'];simp only[Std.Legacy.Range.size,sub_zero,Nat.add_sub_cancel,Nat.div_one];refine wpAny_forIn_list _ (λE3 q t=>t=s/\q=(none,())/\∃i,E3=range' i (es.size-i)/\i<=es.size) _ ?_ ?_ _ _ ⟨rfl,rfl,0,!2,zero_le _⟩
 ·rintro x E3 q t ⟨rfl,rfl,i,hr,hi⟩
  have hlt:i<es.size:=by
   rcases lt_or_ge i es.size with z|z
   ·exact z
   ·rw[Nat.sub_eq_zero_of_le z]at hr;simp at hr
  obtain⟨rfl,hrest⟩:x=i/\E3=range' (i+1) (es.size-(i+1)):=by
   have e:es.size-i=(es.size-(i+1))+1:=by omega
   rw[e,List.range'_succ]at hr;injection hr with z1 z2
   exact⟨z1,z2⟩
  refine wpAny_bind (wpAny_dictEntries hoa hda ?_);rw[Array.getElem?_eq_getElem hlt];have hlt':x<ka.length:=by rw[hla];exact hlt
  obtain⟨k,v,hkv⟩:∃k v,ka[x]=(k,v):=⟨_,_,rfl⟩
  obtain⟨hkey,hval⟩:=hpa.get? (i:=x) (e:=es[x]) (k:=k) (v:=v) (by rw[Array.getElem?_toList,Array.getElem?_eq_getElem hlt]) (by rw[getElem?_eq_getElem hlt',hkv]);obtain⟨k',hk',hh⟩:=hka es[x] (Array.getElem_mem hlt);have ekk:k'=k:=knd.inj _ _ _ hk' hkey;rw[ekk]at hh;obtain⟨y,hy,he⟩:=hits k v (by rw[←hkv];exact getElem_mem hlt');show wpAny _ _ (holding [es[x].key,es[x].val] _ >>= _) _ _ _;rw[hh];refine wpAny_bind (wpAny_holding (wpAny_bind (wpAny_dictFind_of hkey hob hdb hkb ?_)));cases hj:fs.findIdx? λe=>knd.is k e.key with
  |none=>
   have hn:valueAt kb k=none:=by rw[←hfind k,findBy_of_findIdx?,hj]
   rw[hn]at hy;cases hy
  |some j=>
   obtain⟨hjlt,_,_⟩:=Array.findIdx?_eq_some_iff_getElem.mp hj;have hv':valueAt kb k=some fs[j].val:=by
    rw[←hfind k,findBy_of_findIdx?,hj];simp[Array.getElem?_eq_getElem hjlt]
   refine wpAny_bind (wpAny_dictEntries hob hdb ?_);rw[Array.getElem?_eq_getElem hjlt];have ey:fs[j].val=y:=Option.some.inj (hv'.symm.trans hy);rw[←ey,←hval]at he;refine wpAny_holding (he _ _ ?_);show wpAny _ _ (if(!true)=true then _ else _) _ _ _;rw[if_neg (!3)];refine wpAny_bind (wpAny_dictEpoch hoa hda ?_);rw[if_neg (!2)];exact wpAny_pure ⟨rfl,rfl,x+1,hrest,hlt⟩
 ·rintro q t ⟨rfl,rfl,i,hr,hi⟩
  exact wpAny_pure h
theorem EY{Q:Value->Shared->Prop}(ha:(a==sysModules)=false)(hb:(b==sysModules)=false)(da:s.heap.DictOf knd a ka)(db:s.heap.DictOf knd b kb)(hlen:ka.length=kb.length)(hu:A.units<cLine)(hits:gP P w A.in1 s kb ka)(h:Q (.bool true) s):
  wpAny (model P w) A (richCompare .Eq (.ref a) (.ref b)) Q E s:=by
 refine wpAny_richCompare_same_room (op:=.Eq) da.typeIs db.typeIs F.slot_dict_eq (wpAny_call_entry F.slot_dict_eq da.typeIs F.entry_dict_eq ?_ (F.args_dict_eq_2 _ _)) hu;show wpAny _ _ (Builtin.Dict.dictSlotArgs "__eq__" ⟨[.ref a,.ref b],[]⟩ >>= _) _ _ s;refine wpAny_bind ?_;unfold Builtin.Dict.dictSlotArgs;refine wpAny_bind (wpAny_notOrdered_dict da.typeIs ?_);show wpAny _ _ (pure (Value.ref a,Value.ref b)) _ _ s;refine wpAny_pure ?_;refine wpAny_bind (wpAny_isInstance (T:="dict") db.typeIs F.sub_dict_dict ?_);simp only[Bool.not_true,Bool.false_eq_true,if_false];refine wpAny_bind (wpAny_pure ?_);refine wpAny_bind (wpAny_pure ?_);refine wpAny_bind (vB ha hb da db hlen hits ?_);refine wpAny_pure ⟨_,rfl,⟨(λx=>nomatch x),?_⟩⟩;simpa using h
theorem EZ{Q:Value->Shared->Prop}(ha:(a==sysModules)=false)(hb:(b==sysModules)=false)(da:s.heap.DictOf knd a ka)(db:s.heap.DictOf knd b kb)(hlen:ka.length=kb.length)(hu:A.units<cLine)(hits:gP P w A.in1 s kb ka)(h:Q (.bool false) s):
  wpAny (model P w) A (richCompare .NotEq (.ref a) (.ref b)) Q E s:=by
 refine wpAny_richCompare_same_room (op:=.NotEq) da.typeIs db.typeIs F.slot_dict_ne (wpAny_call_entry F.slot_dict_ne da.typeIs F.entry_dict_ne ?_ (F.args_dict_ne_2 _ _)) hu;show wpAny _ _ (Builtin.Dict.dictSlotArgs "__ne__" ⟨[.ref a,.ref b],[]⟩ >>= _) _ _ s;refine wpAny_bind ?_;unfold Builtin.Dict.dictSlotArgs;refine wpAny_bind (wpAny_notOrdered_dict da.typeIs ?_);show wpAny _ _ (pure (Value.ref a,Value.ref b)) _ _ s;refine wpAny_pure ?_;refine wpAny_bind (wpAny_isInstance (T:="dict") db.typeIs F.sub_dict_dict ?_);simp only[Bool.not_true,Bool.false_eq_true,if_false];refine wpAny_bind (wpAny_pure ?_);refine wpAny_bind (wpAny_pure ?_);refine wpAny_bind (vB ha hb da db hlen hits ?_);refine wpAny_pure ⟨_,rfl,⟨(λx=>nomatch x),?_⟩⟩;simpa using h
end
end Rg
namespace Rg
open PySem PySem.SeqAt L2
theorem Fa{K:Type}[DecidableEq K]{k j:K}{v:Value}{r:List (K×Value)}:valueAt ((j,v)::r) k=if j=k then some v else valueAt r k:=by
 unfold valueAt;by_cases h:j=k
 ·simp[h]
 ·simp[h]
section
variable{P:Program}{w:World}{H:Hp}{s:Shared}(hok:HOk P w H s.heap)
include hok
end
end Rg
namespace Rg
open PySem L2
def Th.ty:Th->String
 |.num _=>"int"
 |.word _=>"str"
 |.row _=>"list"
 |.dic _=>"dict"
theorem Rep.ty{K:Frag}{H:Hp}:∀{t:Th}{v:V},Rep H t v->TyOf K H v (.type t.ty)
 |.num i,v,h=>by rw[(h:v=.int i)];exact .int i
 |.word x,v,h=>by rw[(h:v=.str x)];exact .str x
 |.row l,v,h=>by
  obtain⟨a,xs,rfl,h2,_⟩:=(h:∃a xs,v=V.ref a/\H a=some (.lst xs)/\RepR H l xs);exact .lst h2
 |.dic l,v,h=>by
  obtain⟨a,xs,rfl,h2,_⟩:=(h:∃a xs,v=V.ref a/\H a=some (.dK xs)/\RepD H l xs);exact .dK h2
section
variable(K:Frag)
theorem Fb:kitOne K (.type "int") (.type "list")=some false:=by kernel_rfl
theorem Fc:kitOne K (.type "str") (.type "list")=some false:=by kernel_rfl
theorem vC:kitOne K (.type "dict") (.type "list")=some false:=by kernel_rfl
theorem Fd:kitOne K (.type "list") (.type "list")=some true:=by kernel_rfl
theorem Fe:kitOne K (.type "int") (.type "dict")=some false:=by kernel_rfl
theorem Ff:kitOne K (.type "str") (.type "dict")=some false:=by kernel_rfl
theorem Fg:kitOne K (.type "list") (.type "dict")=some false:=by kernel_rfl
theorem Fh:kitOne K (.type "dict") (.type "dict")=some true:=by kernel_rfl
theorem Fi:kitOne K (.type "int") (.type "int")=some true:=by kernel_rfl
end
end Rg
namespace Rg
open PySem PySem.Spec PyProof.Rows L2
def Fj:Th->Bool
 |.row _=>true
 |_=>false
def Q2:Th->Bool
 |.dic _=>true
 |_=>false
theorem vD(K:Frag):∀t:Th,kitOne K (.type t.ty) (.type "list")=some (Fj t)
 |.num _=>Fb K
 |.word _=>Fc K
 |.row _=>Fd K
 |.dic _=>vC K
theorem aD(K:Frag):∀t:Th,kitOne K (.type t.ty) (.type "dict")=some (Q2 t)
 |.num _=>Fe K
 |.word _=>Ff K
 |.row _=>Fg K
 |.dic _=>Fh K
def vE(K:Frag):List V->Hp->VK->Prop:=λxs H Q=>∃x n t b,xs=[x,.ty n]/\TyOf K H x t/\kitOne K t (.type n)=some b/\Q (.bl b) H
theorem gQ{X:Cx}:CallR X (.builtin "isinstance") (vE X.K):=by
 intro ζ s σ H xs us Q I r h;obtain⟨x,n,t,b,rfl,ty,e,q⟩:=h;obtain⟨u,w',rfl,ru,rw'⟩:=kO r;cases rw';exact Du I ru ty e λtk=>⟨.bl b,H,I.tok tk,rfl,q⟩
structure LcSt(x:Str)(fr:List (Str×Nat))(scope sc:Scope)(N:List Str):Prop where
 nocell:∀y∈scope.names,y.2≠.cell
 kind:scope.kind=.function
 nm:∀y∈scope.names,y.2=.local->scope.names.lookup y.1=some .local
 hx:scope.names.lookup x=some .local
 nd:(lN x fr).Nodup
 free:∀y∈scope.names,y.2=.free->sc.names.lookup y.1=some .cell∨sc.names.lookup y.1=some .free
 fr:∀p∈fr,N[p.2]?=some p.1/\scope.names.lookup p.1=some .free
theorem LcSt.ok{X:Cx}{x:Str}{fr:List (Str×Nat)}{scope sc:Scope}{N:List Str}(S:LcSt x fr scope sc N)(h1:X.env.scope=sc)(h2:X.N=N):LcOk X x fr scope:=by
 subst h1;subst h2;exact⟨S.nocell,S.kind,S.nm,S.hx,S.nd,S.free,S.fr⟩
def TupsStay(H H':Hp):Prop:=∀p xs,H p=some (.tup xs)->H' p=some (.tup xs)
theorem bI{H H':Hp}(e:Same H H'):TupsStay H H':=λp xs h=>e p _ h
theorem TupsStay.lst{H:Hp}{a:Addr}{xs:List V}{o:HO}(h:H a=some (.lst xs)):TupsStay H (upd H a o):=λp ys q=>by
 rw[B4 (Z5 q h (λz=>by cases z))];exact q
theorem TupsStay.trans{H H1 H2:Hp}(a:TupsStay H H1)(b:TupsStay H1 H2):TupsStay H H2:=λp xs h=>b p xs (a p xs h)
theorem lS{α β:Type}{F:α->β->Prop}:∀{xs:List α}{ys:List β},Paired F xs ys->xs≠[]->∃xr x yr y,xs=xr++[x]/\ys=yr++[y]/\Paired F xr yr/\F x y
 |_,_,.nil,h=>absurd rfl h
 |_,_,.cons (a:=a) (b:=b) r .nil,_=>⟨[],a,[],b,rfl,rfl,.nil,r⟩
 |_,_,.cons (a:=a) (b:=b) r (.cons r2 t),_=>by
  obtain⟨xr,x,yr,y,h1,h2,h3,h4⟩:=lS (.cons r2 t) (!2);exact⟨a::xr,x,b::yr,y,by rw[h1];rfl,by rw[h2];rfl,.cons r h3,h4⟩
end Rg
namespace Rg
open PySem PySem.W PySem.Spec PyProof.Rows L2
def vF(K:Frag):List V->Hp->VK->Prop:=λxs H Q=>∃(x:V)(tp:Addr)(ns:List String)(t:Value)(b:Bool),xs=[x,.ref tp]/\H tp=some (.tup (ns.map V.ty))/\TyOf K H x t/\kitAny K t (ns.map Value.type)=some b/\Q (.bl b) H
theorem vG:∀{ns:List String}{us:List Value},Vals (ns.map V.ty) us->us=ns.map Value.type
 |[],_,.nil=>rfl
 |n::r,_,.cons a t=>by
  cases a;rw[vG t];rfl
theorem Fk{X:Cx}:CallR X (.builtin "isinstance") (vF X.K):=by
 intro ζ s σ H xs us Q I r h;obtain⟨x,tp,ns,t,b,rfl,htp,ty,e,q⟩:=h;obtain⟨u,w',rfl,ru,rw'⟩:=kO r;cases rw';obtain⟨_,its,rv,⟨o,ho,hc,n,hd⟩⟩:=I.hok tp _ htp;have ei:=vG rv;subst ei;obtain⟨cls,dd,data,sl⟩:=o;simp only at hc hd;subst hc hd;have fin:∀tk,EP X ζ σ Q (.bool b) {s with toks:=tk}:=λtk=>⟨.bl b,H,I.tok tk,rfl,q⟩
 cases ty with
 |non=>cases(show u=Value.none from ru);exact kia_tup kitx_none I.kIn True.intro ho e (λz=>nomatch z) fin
 |bl y=>cases(show u=Value.bool y from ru);exact kia_tup kitx_bool I.kIn True.intro ho e (λz=>nomatch z) fin
 |int i=>obtain⟨t,q⟩:=(show ∃t,u=Value.int i t from ru);cases q;exact kia_tup kitx_int I.kIn True.intro ho e (λz=>nomatch z) fin
 |str y=>obtain⟨t,q⟩:=(show ∃t,u=Value.str y t from ru);cases q;exact kia_tup kitx_str I.kIn True.intro ho e (λz=>nomatch z) fin
 |flt y=>obtain⟨t,q⟩:=(show ∃t,u=Value.float y t from ru);cases q;exact kia_tup kitx_float I.kIn True.intro ho e (λz=>nomatch z) fin
 |@lst a xs ea=>
  cases(show u=Value.ref a from ru);obtain⟨_,_,n,_,h1⟩:=(show ObjOk X.prog X.w H s.heap a (.lst xs)from I.hok a _ ea);exact kia_tup kitx_list I.kIn ⟨_,h1,rfl⟩ ho e (λz=>nomatch z) fin
 |@frz a ob xs ea=>
  cases(show u=Value.ref a from ru);obtain⟨_,_,_,n,_,h1⟩:=(show ObjOk X.prog X.w H s.heap a (.frz ob (.lst xs))from I.hok a _ ea);exact kia_tup kitx_list I.kIn ⟨_,h1,rfl⟩ ho e (λz=>nomatch z) fin
 |@tup a xs ea=>
  cases(show u=Value.ref a from ru);obtain⟨_,_,_,p⟩:=(show ObjOk X.prog X.w H s.heap a (.tup xs)from I.hok a _ ea);obtain⟨o,h1,h2,_⟩:=p;exact kia_tup kitx_tuple I.kIn ⟨o,h1,h2⟩ ho e (λz=>nomatch z) fin
 |@dK a kvs ea=>
  cases(show u=Value.ref a from ru);obtain⟨_,_,vs,_,p⟩:=(show ObjOk X.prog X.w H s.heap a (.dK kvs)from I.hok a _ ea);obtain⟨o,es,ep,h1,h2,_⟩:=p;exact kia_tup kitx_dict I.kIn ⟨o,h1,h2.1⟩ ho e (λz=>nomatch z) fin
 |@dT a kvs ea=>
  cases(show u=Value.ref a from ru);obtain⟨_,_,xs,_,o,es,ep,h1,h2,_⟩:=(show ObjOk X.prog X.w H s.heap a (.dT kvs)from I.hok a _ ea);exact kia_tup kitx_dict I.kIn ⟨o,h1,h2.1⟩ ho e (λz=>nomatch z) fin
 |@ins a C dx fs ea cl ha hn htk hm=>
  cases(show u=Value.ref a from ru);obtain⟨mA,O,_⟩:=cT I.hok ea;obtain⟨od,J,_⟩:=O.look;exact kia_tup (kitx_own (cl.get _) cl.hd ha hn htk hm) I.kIn J ho e (λz=>nomatch z) fin
theorem vH:∀{ns:List Int}{us:List Value},Vals (ns.map V.int) us->IntsAre us ns
 |[],_,.nil=>.nil
 |n::r,_,.cons a t=>by
  obtain⟨k,rfl⟩:=a;exact .cons n k (vH t)
theorem vI:∀{bs:List Bool}{us:List Value},Vals (bs.map V.bl) us->us=bs.map Value.bool
 |[],_,.nil=>rfl
 |n::r,_,.cons a t=>by
  cases a;rw[vI t];rfl
end Rg
namespace Rg
open PySem PySem.Spec PyProof.Rows L2
section
variable{prog:Program}{w:World}{A:Around}{R:Result->Shared->Prop}{s:Shared}
theorem Fl{elt target iter cnd:Expr}{scope:Scope}{pos:Pos}{it acc:Value}{env:Env}(I:Nat->Shared->Prop)
  (turn:∀n t,I n t->wpAny (model prog w) A (pyNext it) (λr s₁=>match r with
   |none=>R (.ok .next) s₁
   |some v=>wpAny (model prog w) A (letOwnedTupleGo target it v) (λ_ s₂=>wpAny (model prog w) A (assign target env v) (λ_ s₃=>wpAny (model prog w) A (isTrue cnd env (eval cnd env)) (λok s₃'=>
     if ok=true then wpAny (model prog w) A (eval elt env) (λy s₄=>wpAny (model prog w) A (call (.builtin "list.append") [acc,y]) (λ_ s₅=>∃m,m<n/\I m s₅) (λ_ _=>False) s₄) (λ_ _=>False) s₃'
     else ∃m,m<n/\I m s₃') (λ_ _=>False) s₃) (λ_ _=>False) s₂) (λ_ _=>False) s₁) (λ_ _=>False) t)
  (n:Nat) (h:I n s):codeAny (model prog w) A (.compLoop (.ListComp elt [⟨target,iter,[cnd],0⟩] scope pos) 0 it acc env) R s:=by
 refine codeAny_loop rfl I (λk t hI=>?_) n h;show wpAny _ _ ((compTurn (.ListComp elt [⟨target,iter,[cnd],0⟩] scope pos) 0 it acc env).onRaise (λx=>do noteFrame x env;theTreesLotGoes x)) _ _ t;refine wpAny_noted ?_;rw[compTurn_list];refine wpAny_bind (wpAny_standAt (wpAny_bind (wpAny_mono (turn k t hI) (λr s₁ h₁=>?_) λ_ _ z=>z.elim)));cases r with
 |none=>exact wpAny_pure h₁
 |some v=>
  refine wpAny_bind (wpAny_mono h₁ (λ_ s₂ h₂=>?_) λ_ _ z=>z.elim);refine wpAny_bind (wpAny_mono h₂ (λ_ s₃ h₃=>wpAny_bind ?_) λ_ _ z=>z.elim);rw[forIn_cons];refine wpAny_bind ?_;rw[if_pos rfl];refine wpAny_bind (wpAny_mono h₃ (λok s₃' h₃'=>wpAny_pure ?_) λ_ _ z=>z.elim);dsimp only;rw[forIn_nil];refine wpAny_pure ?_;cases ok with
  |false=>exact wpAny_pure ⟨rfl,by rw[if_neg Bool.false_ne_true]at h₃';exact h₃'⟩
  |true=>
   rw[if_pos rfl]at h₃';refine wpAny_bind (wpAny_bind (wpAny_mono h₃' (λy s₄ h₄=>?_) λ_ _ z=>z.elim));refine wpAny_bind (wpAny_mono h₄ (λ_ s₅ h₅=>?_) λ_ _ z=>z.elim);exact wpAny_pure (wpAny_pure ⟨rfl,h₅⟩)
end
end Rg
namespace Rg
open PySem PySem.W PySem.Spec PyProof.Rows L2
def aE(xs:List Str)(fr:List (Str×Nat)):List Str:=xs++fr.map (·.1)
def M2(vs:List (Option V))(fr:List (Str×Nat))(σ:L2.St):L2.St:=vs++fr.map λp=>(σ[p.2]?).getD none
def E9(X:Cx)(xs:List Str)(fr:List (Str×Nat))(scope:Scope)(fp:List Addr)(C:Addr)(s:Shared)(H:Hp):Cx where
 prog:=X.prog
 w:=X.w
 K:=X.K
 mg:=X.mg
 base:=X.base
 A:=X.A
 N:=aE xs fr
 s₀:=s
 H₀:=H
 env:=compEnvC scope (bE X.env.cells scope.names) C X.env
 outer:=X.stack
 stack:=X.stack
 ex:=fp
 fn:=λ_=>false
 calm:=X.calm
 pn:=[]
 xe:=λ_ _=>False
structure LcOkG(X:Cx)(xs:List Str)(fr:List (Str×Nat))(scope:Scope):Prop where
 nocell:∀y∈scope.names,y.2≠.cell
 kind:scope.kind=.function
 nm:∀y∈scope.names,y.2=.local->scope.names.lookup y.1=some .local
 hx:∀x∈xs,scope.names.lookup x=some .local
 nd:(aE xs fr).Nodup
 free:∀y∈scope.names,y.2=.free->X.env.scope.names.lookup y.1=some .cell∨X.env.scope.names.lookup y.1=some .free
 fr:∀p∈fr,X.N[p.2]?=some p.1/\scope.names.lookup p.1=some .free
structure LcStG(xs:List Str)(fr:List (Str×Nat))(scope sc:Scope)(N:List Str):Prop where
 nocell:∀y∈scope.names,y.2≠.cell
 kind:scope.kind=.function
 nm:∀y∈scope.names,y.2=.local->scope.names.lookup y.1=some .local
 hx:∀x∈xs,scope.names.lookup x=some .local
 nd:(aE xs fr).Nodup
 free:∀y∈scope.names,y.2=.free->sc.names.lookup y.1=some .cell∨sc.names.lookup y.1=some .free
 fr:∀p∈fr,N[p.2]?=some p.1/\scope.names.lookup p.1=some .free
theorem LcStG.ok{X:Cx}{xs:List Str}{fr:List (Str×Nat)}{scope sc:Scope}{N:List Str}(S:LcStG xs fr scope sc N)(h1:X.env.scope=sc)(h2:X.N=N):LcOkG X xs fr scope:=by
 subst h1;subst h2;exact⟨S.nocell,S.kind,S.nm,S.hx,S.nd,S.free,S.fr⟩
abbrev TU:=V->List V->Hp->Prop
def dA:TU:=λv vs _=>vs=[v]
def gR(U:TU)(n:Nat):TG:=λv σ H Q=>∃vs,U v vs H/\vs.length=n/\Q (vs.map some++σ.drop n) H
def W0(X:Cx)(cs:List Expr)(t:TT):Prop:=match cs with
 |[]=>∀σ H Q,t σ H Q->Q true H
 |c::_=>PT X c t
def bJ:TT:=λ_ H Q=>Q true H
theorem vJ{X:Cx}:W0 X [] bJ:=λ_ _ _ h=>h
theorem Fo{X:Cx}{c:Expr}{t:TT}(h:PT X c t):W0 X [c] t:=h
def lU(M:Model)(A:Around)(cs:List Expr)(env:Env)(Q:Bool->Shared->Prop)(s:Shared):Prop:=match cs with
 |[]=>Q true s
 |c::_=>wpAny M A (isTrue c env (eval c env)) Q (λ_ _=>False) s
theorem Fp{X:Cx}{cs:List Expr}{tt:TT}{ζ:List (Addr×Obj)}{σ:L2.St}{H:Hp}{s:Shared}{Q:Bool->Hp->Prop}{R:Bool->Shared->Prop}{M:Model}{A:Around}{env:Env}(hT:W0 X cs tt)(I:Inv X ζ σ H s)(h:tt σ H Q)(k:∀ok s',TP X ζ σ Q ok s'->R ok s')
  (hM:M=model X.prog X.w:=by rfl) (hA:A=X.A:=by rfl) (he:env=X.env:=by rfl) (hx:X.xe=λ_ _=>False:=by rfl):lU M A cs env R s:=by
 subst hM hA he;cases cs with
 |nil=>exact k true s ⟨H,I,hT σ H Q h⟩
 |cons c r=>
  have z:=(show PT X c tt from hT) ζ s σ H Q I h;rw[hx]at z;exact wpAny_mono z (λok s' q=>k ok s' q) λ_ _ e=>e
def gS(U:TU)(n:Nat)(fr:List (Str×Nat))(tt:TT)(te:TE)(σ:L2.St)(Kf:List V->Hp->Prop)(J:It)(H1:Hp):Prop:=∃W:Nat->Nat->List V->Hp->Prop,(∃m,W 0 m [] H1)/\∀i m ys H,W i m ys H->
 (J.stop i H/\ys.length<=sizeLine/\Kf ys H)∨
 (J.go i H/\ys.length<sizeLine/\∃(N:V->Hp->Prop)(M:Hp->Prop),(∀y H2,N y H2->∃m',m'<m/\W (i+1) m' (ys++[y]) H2)/\(∀H2,M H2->∃m',m'<m/\W (i+1) m' ys H2)/\
  ∀v H',J.yld i H v H'->∃vs,U v vs H'/\vs.length=n/\tt (M2 (vs.map some) fr σ) H' λok H2=>if ok=true then te (M2 (vs.map some) fr σ) H2 N else M H2)
def bK(U:TU)(n:Nat)(fr:List (Str×Nat))(wi:TI)(tt:TT)(te:TE):TE:=fun σ H Q=>wi σ H (gS U n fr tt te σ λys H=>∀p,H p=none->Q (.ref p) (upd H p (.lst ys)))
section
variable{prog:Program}{w:World}{A:Around}{R:Result->Shared->Prop}{s:Shared}
theorem Fq{elt target iter:Expr}{cs:List Expr}{scope:Scope}{pos:Pos}{it acc:Value}{env:Env}(hcs:cs=[]∨∃c,cs=[c])(I:Nat->Shared->Prop)
  (turn:∀n t,I n t->wpAny (model prog w) A (pyNext it) (λr s₁=>match r with
   |none=>R (.ok .next) s₁
   |some v=>wpAny (model prog w) A (letOwnedTupleGo target it v) (λ_ s₂=>wpAny (model prog w) A (assign target env v) (λ_ s₃=>lU (model prog w) A cs env (λok s₃'=>
     if ok=true then wpAny (model prog w) A (eval elt env) (λy s₄=>wpAny (model prog w) A (call (.builtin "list.append") [acc,y]) (λ_ s₅=>∃m,m<n/\I m s₅) (λ_ _=>False) s₄) (λ_ _=>False) s₃'
     else ∃m,m<n/\I m s₃') s₃) (λ_ _=>False) s₂) (λ_ _=>False) s₁) (λ_ _=>False) t)
  (n:Nat) (h:I n s):codeAny (model prog w) A (.compLoop (.ListComp elt [⟨target,iter,cs,0⟩] scope pos) 0 it acc env) R s:=by
 rcases hcs with rfl|⟨c,rfl⟩
 ·refine EF I (λn t hI=>wpAny_mono (turn n t hI) (λr s₁ h₁=>?_) λ_ _ e=>e) n h
  cases r with
  |none=>exact h₁
  |some v=>
   refine wpAny_mono h₁ (λ_ s₂ h₂=>wpAny_mono h₂ (λ_ s₃ h₃=>?_) λ_ _ e=>e) λ_ _ e=>e
   have z:=h₃;unfold lU at z;dsimp only at z;rw[if_pos rfl]at z;exact z
 ·exact Fl I turn n h
end
section
variable{X:Cx}{elt iter tg:Expr}{cs:List Expr}{xs:List Str}{pos:Pos}{scope:Scope}{fr:List (Str×Nat)}{wi:TI}{te:TE}{tt:TT}{U:TU}
theorem vK{pos2:Pos}{use:Option (Value->Sem Unit)}{Q0:Value->Shared->Prop}{ζ:List (Addr×Obj)}{s:Shared}{σ:L2.St}{H:Hp}{Kf:List V->Hp->Prop}(hc:X.calm=true)(hcs:cs=[]∨∃c,cs=[c])(hi:PI X tg iter wi)(S:LcOkG X xs fr scope)
  (hg:∀fp C s H,PG (E9 X xs fr scope fp C s H) tg (gR U xs.length)) (hT:∀fp C s H,W0 (E9 X xs fr scope fp C s H) cs tt) (he:∀fp C s H,PE (E9 X xs fr scope fp C s H) elt te)
  (hs:∀v,foldedSetIterable iter X.env v=pure v) (I:Inv X ζ σ H s) (h:wi σ H (gS U xs.length fr tt te σ Kf))
  (fin:∀(t1:Shared)(D C:Addr)(H':Hp)(ys:List V),H' D=none->Kf ys H'->Inv X ζ σ (upd H' D (.lst ys)) t1->G6 X ζ (upd H' D (.lst ys)) C->(∃m,t1.heap.Ns C m)->compPost (model X.prog X.w) X.A X.xe use Q0 (.ref D) C (.ok .next) t1):
  wpAny (model X.prog X.w) X.A (comprehension (.ListComp elt [⟨tg,iter,cs,0⟩] scope pos) scope X.env pos2 (newList []) false (eval iter X.env) use) Q0 X.xe s:=by
 have hcell:∀p∈scope.names,p.2=.free->∃c,X.env.cells.lookup p.1=some c:=λp hp hk=>I.ok.has p.1 (S.free p hp hk)
 have hsub:∀y c,(bE X.env.cells scope.names).lookup y=some c->X.env.cells.lookup y=some c:=uO scope.names [] hcell (λy c z=>by simp at z)
 refine wpAny_comprehension_free (use:=use) rfl hs (EA hcell) S.kind S.nm ?_;refine A9 (hi ζ s σ H _ I h) λv s1 h1=>A9 h1 λitv s2 h2=>?_
 obtain⟨it,fp,tn,J,H2,e,I2,T,st2,f2,W,⟨m0,w0⟩,turn⟩:=h2;subst e;refine wpAny_newObj_type (wpAny_newFunctionEnv S.nocell (by intro y hy;simp at hy) (λh₁ hns₁ hsb₁=>?_) S.kind);dsimp only at hns₁ hsb₁ ⊢;generalize hP:s2.heap.push {cls:=.type "list",dict:=none,data:=.seq ([]:List Value).toArray}=P at hns₁ hsb₁ ⊢;have hC:P.objs.size=s2.heap.objs.size+1:=by rw[←hP,Heap.size_push]
 have hDC:s2.heap.objs.size≠P.objs.size:=by rw[hC];exact ne_of_lt (lt_succ_self _)
 have hCle:s2.heap.objs.size<=P.objs.size:=by rw[hC];exact le_succ _
 have lt2:∀b,b<s2.heap.objs.size->b≠P.objs.size/\b≠s2.heap.objs.size:=λb hb=>⟨by rw[hC];exact ne_of_lt (lt_succ_of_lt hb),ne_of_lt hb⟩
 have old:∀b o,s2.heap.get? b=some o->h₁.get? b=some o:=λb o q=>
  (hsb₁.2 b (lt2 b (Heap.lt_size q)).1).trans (Heap.get?_push_of_some _ (by rw[←hP];exact Heap.get?_push_of_some _ q))
 have hacc:h₁.get? s2.heap.objs.size=some {cls:=.type "list",data:=.seq ([]:List Value).toArray}:=
  (hsb₁.2 _ hDC).trans (Heap.get?_push_of_some _ (by rw[←hP];exact Heap.get?_push_size _ rfl))
 have hD2:H2 s2.heap.objs.size=none:=I2.hok.fresh (le_refl _);have hC2:H2 P.objs.size=none:=I2.hok.fresh hCle;have hfplt:∀b∈fp,b<s2.heap.objs.size:=λb hb=>by
  obtain⟨o,q,_⟩:=T.obj 0 _ st2 b hb;exact Heap.lt_size q
 have hstk:∀b∈N6 X.stack,b<s2.heap.objs.size:=λb hb=>by
  obtain⟨_,o,q,_⟩:=I2.stack.mem hb;exact Heap.lt_size q
 have okY:(E9 X xs fr scope fp P.objs.size s2 H2).Ok:=by
  refine⟨I2.ok.mod,?_,I2.ok.glob,I2.ok.blt,hCle,?_,?_,?_,I2.ok.hd,I2.ok.frames,.inl rfl,?_,I2.bs,le_trans I2.ok.bsz I2.sz,?_,?_,I2.stack,I2.stkFree⟩
  ·exact S.kind
  ·exact λy z c h1 h2=>I2.ok.inj y z c (hsub y c h1) (hsub z c h2)
  ·intro y hy
   have hf:scope.names.lookup y=some .free:=EC S.nocell hy;exact isSome_iff_exists.mp (lK (cells:=X.env.cells) (y:=y) scope.names [] (.inl (PySem.mem_of_lookup hf)))
  ·intro y c hf
   exact absurd (show false=true from hf) (!3)
  ·intro b hb
   obtain⟨_,_,_,_,f4,_⟩:=f2 b hb;exact⟨(lt2 b (hfplt b hb)).1,λy c q=>f4 y c (hsub y c q)⟩
  ·intro b o q hb
   obtain⟨_,_,_,f3,_,_⟩:=f2 b hb;rcases f3 with z|z
   ·exact I2.ok.noex b o q z
   ·exact absurd (lt_of_lt_of_le (Heap.lt_size q) (le_trans I2.ok.bsz z)) (lt_irrefl _)
  ·intro b hb hz
   obtain⟨_,f1,f2',_⟩:=f2 b hb;rcases mem_cons.mp (I2.stkSub b hz)with z|z
   ·exact f1 z
   ·exact f2' z
 let own (us:List Value) (k:Nat):Addr×Obj:=(s2.heap.objs.size,{cls:=.type "list",data:=.seq us.toArray k})
 have pinD:∀(us:List Value)(k:Nat)(t:Shared)(H':Hp),t.heap.get? s2.heap.objs.size=some {cls:=.type "list",data:=.seq us.toArray k}->H' s2.heap.objs.size=none->
   t.heap.get? (own us k).1=some (own us k).2/\H' (own us k).1=none/\(own us k).1≠(E9 X xs fr scope fp P.objs.size s2 H2).env.locals/\(own us k).1∉(E9 X xs fr scope fp P.objs.size s2 H2).fs/\∀v,(own us k).2.data≠.cell v:=
  λus k t H' q n=>⟨q,n,hDC,λz=>absurd (hstk _ z) (lt_irrefl _),λv z=>nomatch z⟩
 have I4:Inv (E9 X xs fr scope fp P.objs.size s2 H2) [own [] 0] (M2 (xs.map λ_=>none) fr σ) H2 {s2 with heap:=h₁,toks:=s2.toks+([]:List (Str×Value)).length}:=by
  refine⟨okY,rfl,I2.bare,Un.kept old,⟨_,hns₁,λi y v q1 q2 q3=>?_⟩,λy c q=>?_,hC2,λy c q=>I2.freeC y c (hsub y c q),λp hp=>?_,I2.hok.kept old,?_⟩
  ·have lx:(xs.map λ_=>(none:Option V)).length=xs.length:=length_map _
   rcases lt_or_ge i xs.length with hlt|hge
   ·have q2':(xs.map λ_=>(none:Option V))[i]?=some (some v):=by
     rw[←getElem?_append_left (by rw[lx];exact hlt)];exact q2
    rw[getElem?_map]at q2';cases ez:xs[i]? with
    |none=>rw[ez]at q2';cases q2'
    |some z=>rw[ez]at q2';cases q2'
   ·obtain⟨j,rfl⟩:∃j,i=xs.length+j:=⟨i-xs.length,!1⟩
    have q1':(fr.map (·.1))[j]?=some y:=by
     have z:(xs++fr.map (·.1))[xs.length+j]?=some y:=q1;rw[getElem?_append_right (!1),add_sub_cancel_left]at z;exact z
    have q2':(fr.map λp=>(σ[p.2]?).getD none)[j]?=some (some v):=by
     have z:((xs.map λ_=>(none:Option V))++fr.map λp=>(σ[p.2]?).getD none)[xs.length+j]?=some (some v):=q2;rw[getElem?_append_right (by rw[lx];omega),lx,add_sub_cancel_left]at z;exact z
    rw[getElem?_map]at q1' q2';cases ef:fr[j]? with
    |none=>rw[ef]at q1';cases q1'
    |some p=>
     rw[ef]at q1' q2';have e1:p.1=y:=Option.some.inj q1';have e2:(σ[p.2]?).getD none=some v:=Option.some.inj q2';obtain⟨n1,n2⟩:=S.fr p (mem_of_getElem? ef);rw[e1]at n1 n2;have e3:σ[p.2]?=some (some v):=by
      cases ez:σ[p.2]? with
      |none=>rw[ez]at e2;cases e2
      |some z=>rw[ez]at e2;exact congrArg some e2
     have kX:=S.free _ (PySem.mem_of_lookup n2) rfl;obtain⟨m,hm,hl⟩:=I2.loc;obtain⟨u,ru,lk⟩:=hl p.2 y v n1 e3 (.inr kX);refine⟨u,ru,.inr ⟨EB n2,?_⟩⟩;rcases lk with⟨k1,_⟩|⟨_,c,q,ic⟩
     ·have k1':X.env.scope.names.lookup y=some .local:=k1
      rcases kX with kX|kX
      ·exact absurd (k1'.symm.trans kX) (!2)
      ·exact absurd (k1'.symm.trans kX) (!2)
     ·obtain⟨c',hc'⟩:=isSome_iff_exists.mp (lK (cells:=X.env.cells) (y:=y) scope.names [] (.inl (PySem.mem_of_lookup n2)))
      have e4:c'=c:=Option.some.inj ((hsub y c' hc').symm.trans q);subst e4;obtain⟨oc,g1,g2⟩:=ic;exact⟨c',hc',oc,old _ _ g1,g2⟩
  ·obtain⟨z,oc,g1,g2⟩:=I2.cell y c (hsub y c q)
   exact⟨z,oc,old _ _ g1,g2⟩
  ·have e:p=own [] 0:=by simpa [E9]using hp
   subst e;exact pinD [] 0 {s2 with heap:=h₁,toks:=s2.toks+([]:List (Str×Value)).length} H2 hacc hD2
  ·show(M2 (xs.map λ_=>none) fr σ).length=(aE xs fr).length
   unfold M2 aE;rw[length_append,length_append,length_map,length_map,length_map]
 have statY:∀{H':Hp}{us:List Value}{k:Nat},(∀b∈fp,H' b=none)->∀b∈fp,G6 (E9 X xs fr scope fp P.objs.size s2 H2) [own us k] H' b:=λ{H' us k} hn b hb=>by
  obtain⟨_,f1,f2',f3,f4,f5⟩:=f2 b hb;refine⟨hn b hb,(lt2 b (hfplt b hb)).1,okY.exfs b hb,.inl hb,λy c q=>f4 y c (hsub y c q),λp hp z=>?_⟩;have e:p=own us k:=by simpa [E9]using hp
  subst e;exact(lt2 b (hfplt b hb)).2 z.symm
 have loop:∀s₃:Shared,s₃={s2 with heap:=h₁,toks:=s2.toks+([]:List (Str×Value)).length}->
   codeAny (model X.prog X.w) X.A (.compLoop (.ListComp elt [⟨tg,iter,cs,0⟩] scope pos) 0 (.ref it) (.ref s2.heap.objs.size) (compEnvC scope (bE X.env.cells scope.names) P.objs.size X.env))
    (compPost (model X.prog X.w) X.A X.xe use Q0 (.ref s2.heap.objs.size) P.objs.size) s₃:=by
  rintro s₃ rfl;refine Fq hcs (λn t=>∃i ys us k H',Inv (E9 X xs fr scope fp P.objs.size s2 H2) [own us k] (M2 (xs.map λ_=>none) fr σ) H' t/\Vals ys us/\tn i t.heap/\(∀b∈fp,H' b=none)/\W i n ys H') ?_ m0
   ⟨0,[],[],0,H2,I4,.nil,T.keep _ _ _ st2 λb hb o q=>old b o q,λb hb=>(f2 b hb).1,w0⟩
  rintro n t ⟨i,ys,us,k,H',It,rv,st,frs',w1⟩;have hDn:H' s2.heap.objs.size=none:=(It.pin (own us k) (by simp[E9])).2.1;have hDo:t.heap.get? s2.heap.objs.size=some {cls:=.type "list",data:=.seq us.toArray k}:=(It.pin (own us k) (by simp[E9])).1;rcases turn i n ys H' w1 with⟨stop,zl,qn⟩|⟨go,zl,N,M,hN,hM,step⟩
  ·refine A9 (T.done (E9 X xs fr scope fp P.objs.size s2 H2) rfl rfl rfl hc i _ t _ H' _ It (statY frs') st stop) λr t1 ⟨hr,I1⟩=>?_
   subst hr;have hDo1:t1.heap.get? s2.heap.objs.size=some {cls:=.type "list",data:=.seq us.toArray k}:=(I1.pin (own us k) (by simp[E9])).1;have hCn:H' P.objs.size=none:=I1.free;refine fin t1 _ _ H' ys hDn qn ?_ (I2.fpOk hCle (by rw[B4 (Ne.symm hDC)];exact hCn)) (let⟨m,hns,_⟩:=I1.loc;⟨m,hns⟩);have sb:Heap.SameBut P.objs.size t1.heap t1.heap:=.refl _ _;refine I2.call' (s':=t1) (ch:=fp) I1.os (uQ I1.base hCle (le_refl _) hDn sb) ?_ I1.bare λb hb=>?_
   ·intro a o q
    by_cases ha:a=s2.heap.objs.size
    ·subst ha
     rw[A6]at q;cases q;exact⟨zl,us,k,rv,(sb.2 _ hDC).trans hDo1⟩
    ·rw[B4 ha]at q
     refine(I1.hok a o q).stay (λb u hb q'=>(sb.2 b ?_).trans q') (λb z=>?_) λb xs z=>?_
     ·rcases hb with rfl|hb
      ·exact E5 q I1.free
      ·exact E5 hb I1.free
     ·rw[B4 (E5 z hDn)];exact z
     ·rw[B4 (E5 z hDn)];exact z
   ·obtain⟨_,f1,_,f3,f4,f5⟩:=f2 b hb
    exact⟨f3,f1,f4,f5⟩
  ·refine A9 (T.item (E9 X xs fr scope fp P.objs.size s2 H2) rfl rfl rfl hc i _ t _ H' _ It (statY frs') st go) λr t1 ⟨u,hr,h4⟩=>?_
   subst hr;refine A9 h4 λ_ t2 ⟨v,H5,I5,r5,y5,st5,fr5⟩=>?_
   have I5':=I5.pinned (statY fr5) (T.obj _ _ st5);obtain⟨vs,hU,hvl,st6⟩:=step v H5 y5;refine A9 (hg fp P.objs.size s2 H2 _ t2 _ H5 v u (fun σ' H6=>σ'=M2 (vs.map some) fr σ/\H6=H5) I5' r5 ⟨vs,hU,hvl,by
    unfold M2;rw[List.drop_left' (by rw[length_map])],rfl⟩) λ_ t3 ⟨σ6,H6,I6,e6,e7⟩=>?_
   subst e6;subst e7;have wk:∀j z,(M2 (xs.map λ_=>none) fr σ)[j]?=some (some z)->(M2 (vs.map some) fr σ)[j]?=some (some z):=λj z hz=>by
    have lx:(xs.map λ_=>(none:Option V)).length=xs.length:=length_map _;have lv:(vs.map (some (α:=V))).length=xs.length:=by rw[length_map];exact hvl
    unfold M2 at hz ⊢;rcases lt_or_ge j xs.length with hlt|hge
    ·rw[getElem?_append_left (by rw[lx];exact hlt),getElem?_map]at hz
     cases ez:xs[j]? with
     |none=>rw[ez]at hz;cases hz
     |some z=>rw[ez]at hz;cases hz
    ·rw[getElem?_append_right (by rw[lx];exact hge),lx]at hz
     rw[getElem?_append_right (by rw[lv];exact hge),lv];exact hz
   have wl:(M2 (xs.map λ_=>none) fr σ).length=(M2 (vs.map some) fr σ).length:=by
    unfold M2;rw[length_append,length_append,length_map,length_map (some (α:=V)),hvl]
   refine Fp (hT fp P.objs.size s2 H2) I6 st6 λok t3' ⟨H6',I6',q6⟩=>?_
   cases ok with
   |false=>
    obtain⟨m',hm,w7⟩:=hM H6' q6;rw[if_neg Bool.false_ne_true];have pf:∀b∈fp,∃o,t2.heap.get? b=some o/\t3'.heap.get? b=some o/\H6' b=none:=λb hb=>by
     obtain⟨o,q,_⟩:=T.obj _ _ st5 b hb;have z:=I6'.pin (b,o) (mem_append_right _ (mem_append_right _ (fS hb q)));exact⟨o,q,z.1,z.2.1⟩
    have hDo4:t3'.heap.get? s2.heap.objs.size=some {cls:=.type "list",data:=.seq us.toArray k}:=(I6'.pin (own us k) (by simp[E9])).1;have hDn4:H6' s2.heap.objs.size=none:=(I6'.pin (own us k) (by simp[E9])).2.1;have I9:=(I6'.pins_of (ζ':=[]) (λp hp=>absurd hp (!2))).weak (σ':=M2 (xs.map λ_=>none) fr σ) wl wk;refine⟨m',hm,i+1,ys,us,k,H6',I9.pins_of λp hp=>?_,rv,?_,?_,w7⟩
    ·have e:p=own us k:=by simpa using hp
     subst e;exact pinD _ _ _ H6' hDo4 hDn4
    ·refine T.keep _ _ _ st5 λb hb o q=>?_
     obtain⟨o',q1,q2,_⟩:=pf b hb;rw[q]at q1;cases q1;exact q2
    ·exact λb hb=>by
      obtain⟨_,_,_,q3⟩:=pf b hb;exact q3
   |true=>
    rw[if_pos rfl];refine A9 (he fp P.objs.size s2 H2 _ t3' _ H6' _ I6' q6) λyv t4 ⟨y,H7,I7,r7,n7⟩=>?_
    obtain⟨m',hm,w7⟩:=hN y H7 n7;have hDo4:t4.heap.get? s2.heap.objs.size=some {cls:=.type "list",data:=.seq us.toArray k}:=(I7.pin (own us k) (by simp[E9])).1;have hDn4:H7 s2.heap.objs.size=none:=(I7.pin (own us k) (by simp[E9])).2.1;have hlen:us.length<sizeLine:=by rw[←rv.length];exact zl
    refine call_meets F.slot_list_append ⟨_,hDo4,rfl⟩ F.entry_list_append (F.args_list_append_2 _ _) (list_append s2.heap.objs.size us.toArray k yv (by rw[size_toArray];omega)) ⟨hDo4,?_⟩;have hup:=PySem.IsL.update hDo4 (·.push yv);have hea:us.toArray.push yv=(us++[yv]).toArray:=by simp
    rw[hea]at hup;have pf:∀b∈fp,∃o,t2.heap.get? b=some o/\t4.heap.get? b=some o/\H7 b=none:=λb hb=>by
     obtain⟨o,q,_⟩:=T.obj _ _ st5 b hb;have z:=I7.pin (b,o) (mem_append_right _ (mem_append_right _ (fS hb q)));exact⟨o,q,z.1,z.2.1⟩
    have I8:=(I7.pins_of (ζ':=[]) (λp hp=>absurd hp (!2))).turned (it:=s2.heap.objs.size) (h':=t4.heap.update s2.heap.objs.size (Obj.mapSeq (·.push yv))) (t':=t4.toks)
     (λb o hb q=>(Heap.get?_update_other t4.heap (Obj.mapSeq (·.push yv)) (Ne.symm hb)).trans q) hDn4 hDC (.inr (le_refl _))
     (λz c q hz=>by
      obtain⟨_,oc,g1,_⟩:=I2.cell z c (hsub z c q);exact absurd (Heap.lt_size g1) (by rw[hz];exact lt_irrefl _))
     (λp hp=>absurd (show p∈([]:List (Addr×Obj))from hp) (!2))
    have I9:=I8.weak (σ':=M2 (xs.map λ_=>none) fr σ) wl wk;refine⟨m',hm,i+1,ys++[y],us++[yv],(if((us++[yv]).toArray.size==us.toArray.size)=true then k else k+1),H7,I9.pins_of λp hp=>?_,rv.append (.cons r7 .nil),?_,?_,w7⟩
    ·have e:p=own (us++[yv]) (if((us++[yv]).toArray.size==us.toArray.size)=true then k else k+1):=by simpa using hp
     subst e;exact pinD _ _ _ H7 hup hDn4
    ·refine T.keep _ _ _ st5 λb hb o q=>?_
     obtain⟨o',q1,q2,_⟩:=pf b hb;rw[q]at q1;cases q1;exact(Heap.get?_update_other t4.heap (Obj.mapSeq (·.push yv)) (Ne.symm (lt2 b (hfplt b hb)).2)).trans q2
    ·exact λb hb=>by
      obtain⟨_,_,_,q3⟩:=pf b hb;exact q3
 exact codeAny_compStart_list (loop _ rfl) (T.self X.A 0 _ _ _ (T.keep _ _ _ st2 λb hb o q=>old b o q) (loop _ rfl))
theorem Fs(hc:X.calm=true)(hcs:cs=[]∨∃c,cs=[c])(hi:PI X tg iter wi)(S:LcOkG X xs fr scope)
  (hg:∀fp C s H,PG (E9 X xs fr scope fp C s H) tg (gR U xs.length)) (hT:∀fp C s H,W0 (E9 X xs fr scope fp C s H) cs tt) (he:∀fp C s H,PE (E9 X xs fr scope fp C s H) elt te)
  (hs:∀v,foldedSetIterable iter X.env v=pure v:=by intro _;rfl):PE X (.ListComp elt [⟨tg,iter,cs,0⟩] scope pos) (bK U xs.length fr wi tt te):=by
 intro ζ s σ H Q I h;rw[eval_ListComp];exact vK hc hcs hi S hg hT he hs I h λt1 D C H' ys hD k IX fC ⟨m,hns⟩=>⟨m,hns,λh' sb=>⟨.ref D,_,aC (t':=t1.toks) IX fC (λc o hc e=>(sb.2 c hc).trans e),rfl,k D hD⟩⟩
theorem Ft{i:Nat}{y:Str}{py spos:Pos}(hN:X.N.Nodup)(hiN:X.N[i]?=some y)(hyL:V5 X.env.scope y)(hc:X.calm=true)(hcs:cs=[]∨∃c,cs=[c])(hi:PI X tg iter wi)(S:LcOkG X xs fr scope)
  (hg:∀fp C s H,PG (E9 X xs fr scope fp C s H) tg (gR U xs.length)) (hT:∀fp C s H,W0 (E9 X xs fr scope fp C s H) cs tt) (he:∀fp C s H,PE (E9 X xs fr scope fp C s H) elt te)
  (hs:∀v,foldedSetIterable iter X.env v=pure v:=by intro _;rfl) (hsw:swapsWith (.ListComp elt [⟨tg,iter,cs,0⟩] scope pos) (some (.Name y py)) spos.line X.env=pure true:=by rfl)
  (hfn:X.fn y=true∨X.env.scope.names.lookup y=some .local:=by first|exact .inl rfl|exact .inr rfl|assumption):PS X (.Assign [.Name y py] (.ListComp elt [⟨tg,iter,cs,0⟩] scope pos) spos) (Z8 (bK U xs.length fr wi tt te) (V7 i)):=by
 intro ζ s σ H D I h;have hgY:PG X (.Name y py) (V7 i):=kD (i:=i) hN hiN hyL hfn;rw[exec_Assign_Name_used _ _ _ _ hsw];refine wpAny_bind (wpAny_standAt (wpAny_bind ?_));show wpAny _ X.A (do let _ ←comprehension (.ListComp elt [⟨tg,iter,cs,0⟩] scope pos) scope X.env _ (newList []) false (eval iter X.env) (some (assign (.Name y py) X.env))) _ _ s;refine wpAny_bind (wpAny_mono (vK (Q0:=λ_ s'=>SP X ζ D .next s') hc hcs hi S hg hT he hs I h λt1 Da C H' ys hD k IX fC ⟨m,hns⟩=>?_) (λ_ s' hq=>wpAny_pure (wpAny_pure hq)) λ_ _ e=>e);obtain⟨oC,es,ep,hoC,hdC,rC⟩:=id hns;have IP:=gK IX fC hoC (λv z=>by rw[hdC]at z;cases z);refine A9 (hgY _ t1 σ _ (.ref Da) (.ref Da) _ IP rfl (k Da hD)) λ_ t2 ⟨σ3,H3,I3,q3⟩=>?_
 have hC3:=cZ I3;exact⟨m,⟨oC,es,ep,hC3.1,hdC,rC⟩,λh' sb=>⟨σ3,H3,aC (t':=t2.toks) (cY I3) (gL fC hC3.2) (λc o hc e=>(sb.2 c hc).trans e),q3⟩⟩
end
section
variable{X:Cx}{xs:List Str}{fr:List (Str×Nat)}{scope:Scope}
theorem vL{x:Str}{px:Pos}(S:LcOkG X [x] fr scope):∀fp C s H,PG (E9 X [x] fr scope fp C s H) (.Name x px) (gR dA 1):=λfp C s H0 ζ s1 σ H v u Q I r h=>by
 obtain⟨vs,hU,_,q⟩:=h;have hU':vs=[v]:=hU;subst hU';have hx:=S.hx x mem_cons_self;have hg:PG (E9 X [x] fr scope fp C s H0) (.Name x px) (V7 0):=kD (i:=0) S.nd rfl (.inl (lookup_relabel_local hx)) (.inr (lookup_relabel_local hx));refine hg ζ s1 σ H v u Q I r ?_;have hl:σ.length=(aE [x] fr).length:=I.len;cases σ with
 |nil=>unfold aE at hl;simp at hl
 |cons a b=>exact q
end
end Rg
namespace Rg
open PySem PySem.W PyProof.Rows
def S8{α:Type}(lt:Nat->Nat->Bool):KasT α->α
 |.ret a=>a
 |.ask i j k=>S8 lt (k (lt i j))
theorem vM{α:Type}{lt:Nat->Nat->Bool}{n:Nat}{P:α->Prop}:∀{t:KasT α},KOk n P t->P (S8 lt t)
 |.ret _,h=>h
 |.ask i j k,h=>vM (t:=k (lt i j)) (h.2.2 _)
theorem vN{α:Type}{lt:Nat->Nat->Bool}{n:Nat}{P:α->Prop}{cmp:Nat->Nat->(Bool->Shared->Prop)->Shared->Prop}{s:Shared}{G:α->Shared->Prop}
  (hc:∀i j,i<n->j<n->∀C:Bool->Shared->Prop,C (lt i j) s->cmp i j C s):∀{t:KasT α},KOk n P t->G (S8 lt t) s->t.kasWp cmp G s
 |.ret a,_,hG=>hG
 |.ask i j k,h,hG=>hc i j h.1 h.2.1 _ (vN hc (t:=k (lt i j)) (h.2.2 _) hG)
def K7(i j:Int):Ordering:=if i=j then .eq else if i<j then .lt else .gt
def N7(x y:Str):Ordering:=if x=y then .eq else if x.cps.toList<y.cps.toList then .lt else .gt
def O5(x y:Str):Ordering:=(K7 x.length y.length).then (N7 x y)
def C3(x y:Str):Bool:=O5 x y==.lt
def U2(xs:List Str):List Nat:=if xs.length<2 then List.range xs.length else(S8 (λi j=>C3 (xs.getD i Str.empty) (xs.getD j Str.empty)) (kas_sort xs.length)).toList
def L5(xs:List Str):List Str:=(U2 xs).map λi=>xs.getD i Str.empty
theorem vO(xs:List Str):(U2 xs).Perm (List.range xs.length):=by
 unfold U2;split
 ·exact List.Perm.refl _
 ·rename_i h
  exact vM (P:=Pm xs.length) (uU (!1))
theorem vP(xs:List Str):(List.range xs.length).map (λi=>xs.getD i Str.empty)=xs:=by
 apply ext_getElem
 ·simp
 ·intro i q1 q2
  simp[getD_eq_getElem?_getD,getElem?_eq_getElem q2]
theorem gT(xs:List Str):(L5 xs).Perm xs:=by
 have z:=(vO xs).map λi=>xs.getD i Str.empty
 rw[vP]at z;exact z
theorem Fu(i:Int):K7 i i=.eq:=by unfold K7;rw[if_pos rfl]
theorem Fv(i j:Int):K7 j i=(K7 i j).swap:=by
 unfold K7;by_cases e:i=j
 ·rw[if_pos e,if_pos e.symm];rfl
 ·rw[if_neg e,if_neg (Ne.symm e)]
  by_cases l:i<j
  ·rw[if_pos l,if_neg (!1)];rfl
  ·rw[if_neg l,if_pos (!1)];rfl
theorem Fw(x:Str):N7 x x=.eq:=by unfold N7;rw[if_pos rfl]
theorem Fx{x y:Str}(h:x.cps.toList=y.cps.toList):x=y:=by
 obtain⟨⟨a⟩⟩:=x;obtain⟨⟨b⟩⟩:=y;have e:a=b:=h;rw[e]
theorem lV(x y:Str):N7 y x=(N7 x y).swap:=by
 unfold N7;by_cases e:x=y
 ·rw[if_pos e,if_pos e.symm];rfl
 ·rw[if_neg e,if_neg (Ne.symm e)]
  by_cases l:x.cps.toList<y.cps.toList
  ·rw[if_pos l,if_neg (List.lt_asymm l)];rfl
  ·rw[if_neg l]
   have l2:y.cps.toList<x.cps.toList:=byContradiction λn=>e (Fx (List.le_antisymm n l))
   rw[if_pos l2];rfl
theorem Fy(a b:Ordering):(a.then b).swap=a.swap.then b.swap:=by cases a<;>rfl
theorem Kx(a b c:Ordering):(a.then b).then c=a.then (b.then c):=by cases a<;>rfl
theorem vQ(x:Str):O5 x x=.eq:=by unfold O5;rw[Fu,Fw];rfl
theorem vR(x y:Str):O5 y x=(O5 x y).swap:=by unfold O5;rw[Fy,←Fv,←lV]
inductive Own where
 |num (i:Int)
 |word (x:Str)
 |row
 |dic
def Own.sort:Own->Int
 |.num _=>0
 |.word _=>1
 |.row=>2
 |.dic=>3
def gA(i:Int):Int:=if i<0 then 1 else 0
def Own.in1:Own->Own->Ordering
 |.num i,.num j=>(K7 i.natAbs j.natAbs).then (K7 (gA i) (gA j))
 |.word x,.word y=>O5 x y
 |_,_=>.eq
def Own.cmp(a b:Own):Ordering:=(K7 a.sort b.sort).then (a.in1 b)
structure Kt where
 f:Str
 n:Nat
 own:Own
def Kt.cmp(a b:Kt):Ordering:=(O5 a.f b.f).then ((K7 a.n b.n).then (a.own.cmp b.own))
def Th.own:Th->Own
 |.num i=>.num i
 |.word x=>.word x
 |.row _=>.row
 |.dic _=>.dic
theorem vS(t:Th):1<=t.size:=by cases t<;>(unfold Th.size;omega)
end Rg
namespace Rg
open PySem
def Ts.fld(k:Str):Ts->Th
 |.nil=>.num 0
 |.cons j t r=>if j=k then t else r.fld k
def Ts.toL:Ts->List (Str×Th)
 |.nil=>[]
 |.cons k t r=>(k,t)::r.toL
theorem lW:∀(l:Ts){k:Str},k∈l.keys->l.get k=some (l.fld k)
 |.nil,k,h=>by cases h
 |.cons j t r,k,h=>by
  unfold Ts.get Ts.fld;by_cases e:j=k
  ·simp[e]
  ·have h':k∈j::r.keys:=h
   rcases mem_cons.mp h' with z|z
   ·exact absurd z.symm e
   ·simp[e,lW r z]
theorem vT:∀l:Ts,l.toL.length=l.len
 |.nil=>rfl
 |.cons k t r=>by unfold Ts.toL Ts.len;rw[length_cons,vT r]
theorem vU:∀l:Ts,l.toL.map (·.1)=l.keys
 |.nil=>rfl
 |.cons k t r=>by unfold Ts.toL Ts.keys;rw[map_cons,vU r]
theorem lX:∀l:Ts,l.size=(l.toL.map λp=>p.2.size).sum
 |.nil=>rfl
 |.cons k t r=>by unfold Ts.toL Ts.size;rw[map_cons,sum_cons,lX r]
def F6:Th->List (Str×Th)
 |.row l=>l.toL.map λp=>(Str.empty,p.2)
 |.dic l=>(L5 l.keys).map λk=>(k,l.fld k)
 |_=>[]
def vV:Th->List (Str×Th)
 |.row l=>l.toL
 |.dic l=>l.toL
 |_=>[]
theorem lY:∀(l:Ts),l.keys.Nodup->l.keys.map (λk=>(k,l.fld k))=l.toL
 |.nil,_=>rfl
 |.cons j t r,h=>by
  obtain⟨h1,h2⟩:=nodup_cons.mp (show(j::r.keys).Nodup from h);show(j,(Ts.cons j t r).fld j)::r.keys.map (λk=>(k,(Ts.cons j t r).fld k))=(j,t)::r.toL;have e:(Ts.cons j t r).fld j=t:=by unfold Ts.fld;rw[if_pos rfl]
  rw[e,←lY r h2]
  congr 1
  refine map_congr_left λk hk=>?_
  show(k,(Ts.cons j t r).fld k)=(k,r.fld k);have e2:(Ts.cons j t r).fld k=r.fld k:=by show(if j=k then t else r.fld k)=r.fld k;rw[if_neg (λz=>h1 (by rw[z];exact hk))]
  rw[e2]
def stk:List (Str×Th)->List Nat
 |[]=>[]
 |p::r=>(1+((stk r).take (vV p.2).length).sum)::(stk r).drop (vV p.2).length
def K2:List (Str×Th)->List Nat
 |[]=>[]
 |p::r=>(stk (p::r)).headD 0::K2 r
end Rg
namespace Rg
open PySem PySem.SeqAt
open AutoSeq1 (wpAny_loadPart')
open MeetsSeq MeetsSeq2 MeetsSeq3 SeqRoads2
def Fz(A:Around)(s:Shared)(u v:Value)(b:Bool):Prop:=
 ∀(prog:Program)(w:World)(E:Value->Shared->Prop)(Q:Value->Shared->Prop),Q (.bool b) s->wpAny (model prog w) A (richCompare .Lt u v) Q E s
def ElC(A:Around)(s:Shared)(u v:Value)(c:Ordering):Prop:=EqAt A s u v (c==.eq)/\(c≠.eq->Fz A s u v (c==.lt))
section
variable{A:Around}{s:Shared}
theorem ElC.int(a c:Int)(t u:Tok):ElC A s (.int a t) (.int c u) (K7 a c):=by
 have e1:(a==c)=(K7 a c==.eq):=by
  unfold K7;by_cases h:a=c
  ·rw[if_pos h,h];simp
  ·rw[if_neg h,beq_eq_false_iff_ne.mpr h]
   by_cases l:a<c
   ·rw[if_pos l];rfl
   ·rw[if_neg l];rfl
 refine⟨by rw[←e1];exact EqAt.int_int a t c u,λhn=>?_⟩;have e2:decide (a<c)=(K7 a c==.lt):=by
  unfold K7;by_cases h:a=c
  ·rw[if_pos h,h];simp
  ·rw[if_neg h]
   by_cases l:a<c
   ·rw[if_pos l,decide_eq_true l];rfl
   ·rw[if_neg l,decide_eq_false l];rfl
 rw[←e2];exact λprog w E Q q=>HT.DA A s a t c u prog w E Q q
theorem ElC.str(a c:Str)(t u:Tok):ElC A s (.str a t) (.str c u) (N7 a c):=by
 have e1:(a==c)=(N7 a c==.eq):=by
  unfold N7;by_cases h:a=c
  ·rw[if_pos h,h];simp
  ·rw[if_neg h,beq_eq_false_iff_ne.mpr h]
   by_cases l:a.cps.toList<c.cps.toList
   ·rw[if_pos l];rfl
   ·rw[if_neg l];rfl
 refine⟨by rw[←e1];exact EqAt.str_str a t c u,λhn=>?_⟩;have e2:decide (a.cps.toList<c.cps.toList)=(N7 a c==.lt):=by
  unfold N7;by_cases h:a=c
  ·rw[if_pos h,h,decide_eq_false (List.lt_irrefl _)];rfl
  ·rw[if_neg h]
   by_cases l:a.cps.toList<c.cps.toList
   ·rw[if_pos l,decide_eq_true l];rfl
   ·rw[if_neg l,decide_eq_false l];rfl
 rw[←e2];exact λprog w E Q q=>(PyProof.Rows.lt_str q:wpAny (model prog w) A (compareOp .Lt (.str a t) (.str c u)) Q E s)
end
end Rg
namespace Rg
open PySem PySem.SeqAt
open AutoSeq1 (wpAny_loadPart')
open MeetsSeq MeetsSeq2 MeetsSeq3 SeqRoads2
section
variable{P:Program}{w:World}{l b:Addr}{items items2:Array Value}{n n2:Nat}{dd dd2:Option Addr}{sl sl2:Array (Option Value)}
def vW(P:Program)(w:World)(l b:Addr)(items items2:Array Value)(n n2:Nat)(dd dd2:Option Addr)(sl sl2:Array (Option Value))(r:Bool):Spec:=λA R s=>
 s.heap.get? l=some {cls:=.type "tuple",dict:=dd,data:=.seq items n,slots:=sl}/\s.heap.get? b=some {cls:=.type "tuple",dict:=dd2,data:=.seq items2 n2,slots:=sl2}/\
  (∀j (h1:j<items.size) (h2:j<items2.size),EqIn P w A.in1 s items[j] items2[j])/\R (.ok (.ret (.bool r))) s
theorem FA(hsz:items.size=items2.size):MeetsIn P w (Builtin.«tuple.__eq__» ⟨[.ref l,.ref b],[]⟩) (vW P w l b items items2 n n2 dd dd2 sl sl2 true):=by
 intro A R s h;obtain⟨hp,g,d,tk,os⟩:=s;obtain⟨hl,hb,he,h⟩:=h;have f2:=AutoSeq1.sub_tuple_tuple
 wp_walk using wpAny_loadPart' hl,wpAny_loadPart' hb,wpAny_forIn_list _ (λE3 b s'=>b.1=none/\s'=⟨hp,g,d,tk,os⟩/\∃i:Nat,E3=(items.toList.drop i).zip (items2.toList.drop i)) _
 case turn=>
  rintro ⟨y,x⟩ E3 b s' ⟨hb',rfl,i,hz⟩;rcases lt_or_ge i items.size with hi|hi
  ·have h1:items.toList.drop i=items[i]::items.toList.drop (i+1):=by
    rw[drop_eq_getElem_cons (by simpa using hi)];simp
   have h2:items2.toList.drop i=items2[i]'(!1)::items2.toList.drop (i+1):=by
    rw[drop_eq_getElem_cons (by simp;omega)];simp
   rw[h1,h2,zip_cons_cons]at hz;injection hz with hyx hrest
   injection hyx with hy hx
   subst hy hx;refine wpAny_bind (he i hi (!1) _ _ ?_)
   wp_walk
   exact⟨rfl,rfl,i+1,hrest⟩
  ·rw[drop_of_length_le (by simpa using hi),zip_nil_left]at hz
   cases hz
 case fin=>
  rintro ⟨b1,b2⟩ s' ⟨hb',rfl,i,hz⟩;simp only at hb';subst hb';have hv:(true:Bool)=(items.size==items2.size):=by simp[hsz]
  rw[hv]at h
  wp_walk
  simpa [Builtin.Tuple.tupleCompareSizes]using h
 case h=>
  exact⟨rfl,rfl,0,rfl⟩
theorem FD(hsz:items.size=items2.size):MeetsIn P w (Builtin.«tuple.__ne__» ⟨[.ref l,.ref b],[]⟩) (vW P w l b items items2 n n2 dd dd2 sl sl2 false):=by
 intro A R s h;obtain⟨hp,g,d,tk,os⟩:=s;obtain⟨hl,hb,he,h⟩:=h;have f2:=AutoSeq1.sub_tuple_tuple
 wp_walk using wpAny_loadPart' hl,wpAny_loadPart' hb,wpAny_forIn_list _ (λE3 b s'=>b.1=none/\s'=⟨hp,g,d,tk,os⟩/\∃i:Nat,E3=(items.toList.drop i).zip (items2.toList.drop i)) _
 case turn=>
  rintro ⟨y,x⟩ E3 b s' ⟨hb',rfl,i,hz⟩;rcases lt_or_ge i items.size with hi|hi
  ·have h1:items.toList.drop i=items[i]::items.toList.drop (i+1):=by
    rw[drop_eq_getElem_cons (by simpa using hi)];simp
   have h2:items2.toList.drop i=items2[i]'(!1)::items2.toList.drop (i+1):=by
    rw[drop_eq_getElem_cons (by simp;omega)];simp
   rw[h1,h2,zip_cons_cons]at hz;injection hz with hyx hrest
   injection hyx with hy hx
   subst hy hx;refine wpAny_bind (he i hi (!1) _ _ ?_)
   wp_walk
   exact⟨rfl,rfl,i+1,hrest⟩
  ·rw[drop_of_length_le (by simpa using hi),zip_nil_left]at hz
   cases hz
 case fin=>
  rintro ⟨b1,b2⟩ s' ⟨hb',rfl,i,hz⟩;simp only at hb';subst hb';have hv:(false:Bool)=(items.size != items2.size):=by simp[hsz]
  rw[hv]at h
  wp_walk
  simpa [Builtin.Tuple.tupleCompareSizes]using h
 case h=>
  exact⟨rfl,rfl,0,rfl⟩
end
section
variable{P:Program}{w:World}{A:Around}{E:Value->Shared->Prop}{s:Shared}{l b:Addr}{items items2:Array Value}{Q:Value->Shared->Prop}
theorem FE(hl:s.heap.IsTuple l items)(hb:s.heap.IsTuple b items2)(hsz:items.size=items2.size)(hu:A.units<cLine)(he:∀j (h1:j<items.size) (h2:j<items2.size),EqIn P w A.in1 s items[j] items2[j])(h:Q (.bool true) s):
  wpAny (model P w) A (richCompare .Eq (.ref l) (.ref b)) Q E s:=by
 obtain⟨⟨cls,dd,data,sl⟩,ho,hc,n,hd⟩:=id hl;obtain⟨⟨cls2,dd2,data2,sl2⟩,ho2,hc2,n2,hd2⟩:=id hb;simp only at hc hd hc2 hd2;subst hc hd hc2 hd2;refine wpAny_richCompare_same_room (op:=.Eq) (T:="tuple") ⟨_,ho,rfl⟩ ⟨_,ho2,rfl⟩ F.slot_tuple_eq (call_meetsIn F.slot_tuple_eq ⟨_,ho,rfl⟩ F.entry_tuple_eq (F.args_tuple_eq_2 _ _) (FA hsz) ⟨ho,ho2,he,?_⟩) hu;exact⟨(λx=>nomatch x),h⟩
theorem FF(hl:s.heap.IsTuple l items)(hb:s.heap.IsTuple b items2)(hsz:items.size=items2.size)(hu:A.units<cLine)(he:∀j (h1:j<items.size) (h2:j<items2.size),EqIn P w A.in1 s items[j] items2[j])(h:Q (.bool false) s):
  wpAny (model P w) A (richCompare .NotEq (.ref l) (.ref b)) Q E s:=by
 obtain⟨⟨cls,dd,data,sl⟩,ho,hc,n,hd⟩:=id hl;obtain⟨⟨cls2,dd2,data2,sl2⟩,ho2,hc2,n2,hd2⟩:=id hb;simp only at hc hd hc2 hd2;subst hc hd hc2 hd2;refine wpAny_richCompare_same_room (op:=.NotEq) (T:="tuple") ⟨_,ho,rfl⟩ ⟨_,ho2,rfl⟩ F.slot_tuple_ne (call_meetsIn F.slot_tuple_ne ⟨_,ho,rfl⟩ F.entry_tuple_ne (F.args_tuple_ne_2 _ _) (FD hsz) ⟨ho,ho2,he,?_⟩) hu;exact⟨(λx=>nomatch x),h⟩
end
end Rg
namespace Rg
open PySem PySem.SeqAt L2
inductive Dt where
 |int (i:Int)|str (x:Str)|bl (b:Bool)|non
 |lst (l:List Dt)|tup (l:List Dt)|dic (ks:List Str) (l:List Dt)
mutual
def Q4(H:Hp):Dt->V->Prop
 |.int i,v=>v=.int i
 |.str x,v=>v=.str x
 |.bl b,v=>v=.bl b
 |.non,v=>v=.non
 |.lst l,v=>∃a xs,v=.ref a/\H a=some (.lst xs)/\DReps H l xs
 |.tup l,v=>∃a xs,v=.ref a/\H a=some (.tup xs)/\DReps H l xs
 |.dic ks l,v=>∃a kvs,v=.ref a/\H a=some (.dK kvs)/\kvs.map (·.1)=ks.map Sum.inr/\DReps H l (kvs.map (·.2))
def DReps(H:Hp):List Dt->List V->Prop
 |[],xs=>xs=[]
 |d::l,xs=>∃y ys,xs=y::ys/\Q4 H d y/\DReps H l ys
end
mutual
def Dt.size:Dt->Nat
 |.lst l=>Dt.sizes l+1
 |.tup l=>Dt.sizes l+1
 |.dic _ l=>Dt.sizes l+1
 |_=>1
def Dt.sizes:List Dt->Nat
 |[]=>0
 |d::l=>d.size+Dt.sizes l
end
mutual
def Dt.deep:Dt->Nat
 |.lst l=>Dt.deeps l+1
 |.tup l=>Dt.deeps l+1
 |.dic _ l=>Dt.deeps l+1
 |_=>0
def Dt.deeps:List Dt->Nat
 |[]=>0
 |d::l=>max d.deep (Dt.deeps l)
end
mutual
def Dt.Fine:Dt->Prop
 |.lst l=>Dt.Fines l
 |.tup l=>Dt.Fines l
 |.dic ks l=>ks.Nodup/\Dt.Fines l
 |_=>True
def Dt.Fines:List Dt->Prop
 |[]=>True
 |d::l=>d.Fine/\Dt.Fines l
end
theorem DReps.len{H:Hp}:∀{l:List Dt}{xs:List V},DReps H l xs->xs.length=l.length
 |[],xs,h=>by rw[(h:xs=[])];rfl
 |d::l,xs,h=>by
  obtain⟨y,ys,rfl,_,h3⟩:=(h:∃y ys,xs=y::ys/\Q4 H d y/\DReps H l ys);exact congrArg (· + 1) (DReps.len h3)
theorem dB:∀{kvs:List (B1×V)}{vs:List (B1×Value)},KV kvs vs->Vals (kvs.map (·.2)) (vs.map (·.2))
 |_,_,.nil=>.nil
 |_,_,.cons r t=>.cons r.2 (dB t)
theorem lZ{P:Program}{w:World}{A:Around}{s:Shared}:∀{ks:List Str}{us ws:List (B1×Value)},ks.Nodup->us.map (·.1)=ks.map Sum.inr->ws.map (·.1)=ks.map Sum.inr->
  (∀(j:Nat)(h1:j<(us.map (·.2)).length)(h2:j<(ws.map (·.2)).length),EqIn P w A s (us.map (·.2))[j] (ws.map (·.2))[j])->gP P w A s ws us
 |[],us,ws,_,h1,_,_=>by
  intro k v hm;have e:us=[]:=List.map_eq_nil_iff.mp h1;rw[e]at hm;cases hm
 |n::ks,us,ws,nd,h1,h2,he=>by
  cases us with
  |nil=>cases h1
  |cons p us=>
   cases ws with
   |nil=>cases h2
   |cons q ws=>
    obtain⟨k1,v1⟩:=p;obtain⟨k2,v2⟩:=q;have e1:k1=Sum.inr n:=by injection h1
    have e2:k2=Sum.inr n:=by injection h2
    have f1:us.map (·.1)=ks.map Sum.inr:=by injection h1
    have f2:ws.map (·.1)=ks.map Sum.inr:=by injection h2
    subst e1 e2;obtain⟨nd1,nd2⟩:=nodup_cons.mp nd;intro k v hm;rw[Fa];rcases mem_cons.mp hm with e|hm
    ·cases e
     exact⟨v2,by rw[if_pos rfl],he 0 (!2) (!2)⟩
    ·have hne:¬(Sum.inr n:B1)=k:=λe=>by
      have z1:k∈us.map (·.1):=mem_map.mpr ⟨_,hm,rfl⟩;rw[f1,←e]at z1;obtain⟨k2,z3,z4⟩:=mem_map.mp z1;cases z4;exact nd1 z3
     rw[if_neg hne];exact lZ nd2 f1 f2 (λj g1 g2=>he (j+1) (by simpa using g1) (by simpa using g2)) k v hm
section
variable{P:Program}{w:World}{H:Hp}{s:Shared}(hok:HOk P w H s.heap)
include hok
mutual
theorem FG:∀(d:Dt){v v':V}{u u':Value}{A:Around},Q4 H d v->Q4 H d v'->L2.RelV v u->L2.RelV v' u'->d.Fine->A.units+d.deep<cLine->EqIn P w A s u u'
 |.int i,v,v',u,u',A,h,h',r,r',_,_=>by
  rw[(h:v=.int i)]at r;rw[(h':v'=.int i)]at r';obtain⟨t1,rfl⟩:=r;obtain⟨t2,rfl⟩:=r';have z:=EqAt.int_int (A:=A) (s:=s) i t1 i t2;rw[beq_self_eq_true]at z;exact EqIn.of z
 |.str x,v,v',u,u',A,h,h',r,r',_,_=>by
  rw[(h:v=.str x)]at r;rw[(h':v'=.str x)]at r';obtain⟨t1,rfl⟩:=r;obtain⟨t2,rfl⟩:=r';have z:=EqAt.str_str (A:=A) (s:=s) x t1 x t2;rw[beq_self_eq_true]at z;exact EqIn.of z
 |.bl b,v,v',u,u',A,h,h',r,r',_,_=>by
  rw[(h:v=.bl b)]at r;rw[(h':v'=.bl b)]at r';cases r;cases r';exact EqIn.of (EqAt.same _)
 |.non,v,v',u,u',A,h,h',r,r',_,_=>by
  rw[(h:v=.non)]at r;rw[(h':v'=.non)]at r';cases r;cases r';exact EqIn.of (EqAt.same _)
 |.lst l,v,v',u,u',A,h,h',r,r',ok,hu=>by
  obtain⟨a,xs,rfl,h2,h3⟩:=(h:∃a xs,v=V.ref a/\H a=some (.lst xs)/\DReps H l xs);obtain⟨b,ys,rfl,g2,g3⟩:=(h':∃a xs,v'=V.ref a/\H a=some (.lst xs)/\DReps H l xs);cases r;cases r';obtain⟨_,its,n,rv,e1⟩:=hok a _ h2;obtain⟨_,jts,m,rw',e2⟩:=hok b _ g2;have hu':A.units+(Dt.deeps l+1)<cLine:=hu;have key:=X4 (A:=A.in1) l h3 g3 rv rw' ok (by show A.units+1+Dt.deeps l<cLine;omega);have hl:its.length=jts.length:=by rw[←rv.length,←rw'.length,h3.len,g3.len]
  refine EqIn.refs λE Q q=>vA (items:=its.toArray) (items2:=jts.toArray) ⟨_,e1,rfl,n,rfl⟩ ⟨_,e2,rfl,m,rfl⟩ (by simpa using hl) (!1) (λj h1 h2'=>?_) q
  simpa using key j (by simpa using h1) (by simpa using h2')
 |.tup l,v,v',u,u',A,h,h',r,r',ok,hu=>by
  obtain⟨a,xs,rfl,h2,h3⟩:=(h:∃a xs,v=V.ref a/\H a=some (.tup xs)/\DReps H l xs);obtain⟨b,ys,rfl,g2,g3⟩:=(h':∃a xs,v'=V.ref a/\H a=some (.tup xs)/\DReps H l xs);cases r;cases r';obtain⟨_,its,rv,e1⟩:=hok a _ h2;obtain⟨_,jts,rw',e2⟩:=hok b _ g2;have hu':A.units+(Dt.deeps l+1)<cLine:=hu;have key:=X4 (A:=A.in1) l h3 g3 rv rw' ok (by show A.units+1+Dt.deeps l<cLine;omega);have hl:its.length=jts.length:=by rw[←rv.length,←rw'.length,h3.len,g3.len]
  refine EqIn.refs λE Q q=>FE (items:=its.toArray) (items2:=jts.toArray) e1 e2 (by simpa using hl) (!1) (λj h1 h2'=>?_) q
  simpa using key j (by simpa using h1) (by simpa using h2')
 |.dic ks l,v,v',u,u',A,h,h',r,r',ok,hu=>by
  obtain⟨a,kvs,rfl,h2,h3,h4⟩:=(h:∃a kvs,v=.ref a/\H a=some (.dK kvs)/\kvs.map (·.1)=ks.map Sum.inr/\DReps H l (kvs.map (·.2)));obtain⟨b,kws,rfl,g2,g3,g4⟩:=(h':∃a kvs,v'=.ref a/\H a=some (.dK kvs)/\kvs.map (·.1)=ks.map Sum.inr/\DReps H l (kvs.map (·.2)));cases r;cases r';obtain⟨_,sa,vs,rv,d1⟩:=aB hok h2;obtain⟨_,sb,ws,rw',d2⟩:=aB hok g2;have hu':A.units+(Dt.deeps l+1)<cLine:=hu;have hl:vs.length=ws.length:=by
   rw[←rv.length,←rw'.length,←length_map (·.1),←length_map (as:=kws) (·.1),h3,g3]
  have kv:=(dB rv);have kw:=(dB rw');have key:=X4 (A:=A.in1) l h4 g4 kv kw ok.2 (by show A.units+1+Dt.deeps l<cLine;omega);refine EqIn.refs λE Q q=>EY sa sb d1 d2 hl (!1) (lZ (ks:=ks) ok.1 (by rw[←L2.KV.keys rv];exact h3) (by rw[←L2.KV.keys rw'];exact g3) key) q
theorem X4:∀(l:List Dt){xs ys:List V}{us ws:List Value}{A:Around},DReps H l xs->DReps H l ys->Vals xs us->Vals ys ws->Dt.Fines l->A.units+Dt.deeps l<cLine->∀(j:Nat)(h1:j<us.length)(h2:j<ws.length),EqIn P w A s us[j] ws[j]
 |[],xs,ys,us,ws,A,h,h',r,r',_,_,j,h1,h2=>by
  rw[(h:xs=[])]at r;cases r;exact absurd h1 (not_lt_zero _)
 |d::q,xs,ys,us,ws,A,h,h',r,r',ok,hu,j,h1,h2=>by
  obtain⟨y,yr,rfl,a1,a2⟩:=(h:∃y ys,xs=y::ys/\Q4 H d y/\DReps H q ys);obtain⟨z,zr,rfl,b1,b2⟩:=(h':∃y ys',ys=y::ys'/\Q4 H d y/\DReps H q ys');cases r with
  |cons r rr=>
   cases r' with
   |cons r' rr'=>
    have hu':A.units+max d.deep (Dt.deeps q)<cLine:=hu;cases j with
    |zero=>exact FG d a1 b1 r r' ok.1 (!1)
    |succ j=>exact X4 q a2 b2 rr rr' ok.2 (!1) j (lt_of_succ_lt_succ h1) (lt_of_succ_lt_succ h2)
end
end
theorem FH{X:Cx}{k:Nat}(hr:Room k X.A):OpR X (compareOp .NotEq) (λx y H Q=>∃d:Dt,Q4 H d x/\Q4 H d y/\d.Fine/\d.deep<=100/\Q (.bl false) H):=by
 intro ζ s σ H x y v u Q I rx ry h;obtain⟨d,h1,h2,ok,hz,q⟩:=h;have hu:X.A.units+150<cLine:=by have z:=hr.un;omega
 cases d with
 |int i=>
  rw[(h1:x=.int i)]at rx;rw[(h2:y=.int i)]at ry;exact cS ζ s σ H _ _ v u Q I rx ry ⟨rfl,by simpa using q⟩
 |str z=>
  rw[(h1:x=.str z)]at rx;rw[(h2:y=.str z)]at ry;exact cS ζ s σ H _ _ v u Q I rx ry ⟨rfl,by simpa using q⟩
 |bl z=>
  rw[(h1:x=.bl z)]at rx;rw[(h2:y=.bl z)]at ry;exact cS ζ s σ H _ _ v u Q I rx ry ⟨rfl,by simpa using q⟩
 |non=>
  rw[(h1:x=.non)]at rx;rw[(h2:y=.non)]at ry;exact cS ζ s σ H _ _ v u Q I rx ry ⟨rfl,by simpa using q⟩
 |lst l=>
  obtain⟨a,xs,rfl,a2,a3⟩:=(h1:∃a xs,x=V.ref a/\H a=some (.lst xs)/\DReps H l xs);obtain⟨b,ys,rfl,b2,b3⟩:=(h2:∃a xs,y=V.ref a/\H a=some (.lst xs)/\DReps H l xs);cases rx;cases ry;obtain⟨_,its,n,rv,e1⟩:=I.hok a _ a2;obtain⟨_,jts,m,rw',e2⟩:=I.hok b _ b2;have hz':Dt.deeps l+1<=100:=hz;have key:=X4 I.hok (A:=X.A.in1) l a3 b3 rv rw' ok (by show X.A.units+1+Dt.deeps l<cLine;omega);have hl:its.length=jts.length:=by rw[←rv.length,←rw'.length,a3.len,b3.len]
  refine EX (items:=its.toArray) (items2:=jts.toArray) ⟨_,e1,rfl,n,rfl⟩ ⟨_,e2,rfl,m,rfl⟩ (by simpa using hl) (!1) (λj h1' h2'=>?_) ⟨.bl false,H,I,rfl,q⟩;simpa using key j (by simpa using h1') (by simpa using h2')
 |tup l=>
  obtain⟨a,xs,rfl,a2,a3⟩:=(h1:∃a xs,x=V.ref a/\H a=some (.tup xs)/\DReps H l xs);obtain⟨b,ys,rfl,b2,b3⟩:=(h2:∃a xs,y=V.ref a/\H a=some (.tup xs)/\DReps H l xs);cases rx;cases ry;obtain⟨_,its,rv,e1⟩:=I.hok a _ a2;obtain⟨_,jts,rw',e2⟩:=I.hok b _ b2;have hz':Dt.deeps l+1<=100:=hz;have key:=X4 I.hok (A:=X.A.in1) l a3 b3 rv rw' ok (by show X.A.units+1+Dt.deeps l<cLine;omega);have hl:its.length=jts.length:=by rw[←rv.length,←rw'.length,a3.len,b3.len]
  refine FF (items:=its.toArray) (items2:=jts.toArray) e1 e2 (by simpa using hl) (!1) (λj h1' h2'=>?_) ⟨.bl false,H,I,rfl,q⟩;simpa using key j (by simpa using h1') (by simpa using h2')
 |dic ks l=>
  obtain⟨a,kvs,rfl,a2,a3,a4⟩:=(h1:∃a kvs,x=.ref a/\H a=some (.dK kvs)/\kvs.map (·.1)=ks.map Sum.inr/\DReps H l (kvs.map (·.2)));obtain⟨b,kws,rfl,b2,b3,b4⟩:=(h2:∃a kvs,y=.ref a/\H a=some (.dK kvs)/\kvs.map (·.1)=ks.map Sum.inr/\DReps H l (kvs.map (·.2)));cases rx;cases ry;obtain⟨_,sa,vs,rv,d1⟩:=aB I.hok a2;obtain⟨_,sb,ws,rw',d2⟩:=aB I.hok b2;have hz':Dt.deeps l+1<=100:=hz;have hl:vs.length=ws.length:=by
   rw[←rv.length,←rw'.length,←length_map (·.1),←length_map (as:=kws) (·.1),a3,b3]
  have key:=X4 I.hok (A:=X.A.in1) l a4 b4 (dB rv) (dB rw') ok.2 (by show X.A.units+1+Dt.deeps l<cLine;omega);exact EZ sa sb d1 d2 hl (!1) (lZ (ks:=ks) ok.1 (by rw[←L2.KV.keys rv];exact a3) (by rw[←L2.KV.keys rw'];exact b3) key) ⟨.bl false,H,I,rfl,q⟩
end Rg
namespace Rg
open PySem PySem.W PySem.Spec PyProof.Rows L2
theorem PSet.or{X:Cx}{t u:cR}(h1:PSet X t)(h2:PSet X u):PSet X (λo i v H Q=>t o i v H Q∨u o i v H Q):=
 fun ζ s σ H o i v ov iv w Q I r1 r2 r3 h=>h.elim (λh=>h1 ζ s σ H o i v ov iv w Q I r1 r2 r3 h) (λh=>h2 ζ s σ H o i v ov iv w Q I r1 r2 r3 h)
section
variable{X:Cx}
def vX:R2:=λx y H Q=>∃a v,x=.ref a/\DGet H a y (some v)/\Q v H
theorem FI(hu:X.A.units+1<cLine):IxR X vX:=by
 intro value slice ζ s σ H x y v u Q I rx ry h hs;obtain⟨a,w',rfl,g,q⟩:=h;obtain rfl:v=Value.ref a:=rx;have hT:=uK I g;unfold subscriptTail;refine wpAny_bind ?_;rw[getitemInPython_of_ne hT.not_modules];refine wpAny_bind (wpAny_specialOf hT PySem.F.slot_dict_getitem.lookup ?_);have fin:wpAny (model X.prog X.w) X.A (subscripted slice false (.ref a) u) (λr s₃=>wpAny (model X.prog X.w) X.A (letTemporaryGo value (.ref a) r >>= λ_=>pure r) (EP X ζ σ Q) X.xe s₃) X.xe s:=by
  rw[hs];exact wpAny_operating (uH hu I g ry λz s3 I3 rz=>wpAny_bind (wpAny_letTemporaryGo (wpAny_pure ⟨w',H,I3,rz,q⟩)))
 first
  |exact wpAny_pure (wpAny_bind fin)
  |exact wpAny_bind (wpAny_pure (wpAny_bind fin))
  |exact wpAny_bind fin
theorem FJ(hu:X.A.units+1<cLine):OpR X (compareOp .NotIn) (λy x H Q=>∃a o,x=.ref a/\DGet H a y o/\Q (.bl (!o.isSome)) H):=by
 intro ζ s σ H x y v u Q I rx ry h;obtain⟨a,o,rfl,g,q⟩:=h;obtain rfl:u=Value.ref a:=ry;exact En hu I g rx λs3 I3=>⟨.bl (!o.isSome),H,I3,rfl,q⟩
theorem FK(hu:X.A.units+1<cLine):PSet X (λo i v H Q=>∃a H4,o=.ref a/\DPut H a i v H4/\Q H4):=by
 intro ζ s σ H o i v ov iv u Q I ro ri rv h;obtain⟨a,H4,rfl,g,q⟩:=h;obtain rfl:ov=Value.ref a:=ro;exact Ep hu I g ri rv λs4 I4=>⟨H4,I4,q⟩
@[irreducible] def R6(K:Frag):R2:=λx y H Q=>R4 (λi j=>.int (i+j)) x y H Q∨(∃i j,x=.str i/\y=.str j/\i.length+j.length<=sizeLine/\Q (.str (i++j)) H)∨uB x y H Q∨tN K x y H Q
theorem FM(K:Frag)(hK:X.K=K:=by rfl):OpR X (binaryOp .Add) (R6 K):=by
 subst hK;unfold R6;exact CG.or (Df.or (Ef.or DL))
@[irreducible] def N0(K:Frag):R2:=λx y H Q=>tR K x y H Q∨tQ K x y H Q∨vX x y H Q∨tS x y H Q
theorem FN(K:Frag)(hu:X.A.units+1<cLine)(hK:X.K=K:=by rfl):IxR X (N0 K):=by
 subst hK;unfold N0;exact DO.or (DN.or ((FI hu).or DP))
@[irreducible] def dD(K:Frag):R2:=λy x H Q=>(∃a o,x=.ref a/\DGet H a y o/\Q (.bl (!o.isSome)) H)∨tW K true y x H Q∨(∃i j,y=.str i/\x=.str j/\Q (.bl (!(!(Builtin.Str.occurrences j i 0 j.length 1).isEmpty))) H)
theorem FO(K:Frag)(hu:X.A.units+1<cLine)(hK:X.K=K:=by rfl):OpR X (compareOp .NotIn) (dD K):=by
 subst hK;unfold dD;exact(FJ hu).or (DW.or DX)
@[irreducible] def aF:cR:=λo i v H Q=>(∃a H4,o=.ref a/\DPut H a i v H4/\Q H4)∨tT o i v H Q
theorem FP(hu:X.A.units+1<cLine):PSet X aF:=by
 unfold aF;exact PSet.or (FK hu) DR
@[irreducible] def dE(K:Frag):V->Option Int->Option Int->Hp->VK->Prop:=λx lo hi H Q=>tU K x lo hi H Q∨tM K x lo hi H Q
theorem FQ(K:Frag)(hK:X.K=K:=by rfl):SlR X (dE K):=by
 subst hK;unfold dE;exact DU.or DK
@[irreducible] def aG(K:Frag):List V->Hp->VK->Prop:=λxs H Q=>(∃x n,xs=[x]/\sH K x H n/\Q (.int n) H)∨(∃a kvs,xs=[V.ref a]/\H a=some (.dK kvs)/\Q (.int kvs.length) H)
theorem FS(K:Frag)(hK:X.K=K:=by rfl):CallR X (.builtin "len") (aG K):=by
 subst hK;unfold aG;exact kP.or Ey
@[irreducible] def dF(K:Frag):List V->Hp->VK->Prop:=λxs H Q=>vE K xs H Q∨vF K xs H Q
theorem FU(K:Frag)(hK:X.K=K:=by rfl):CallR X (.builtin "isinstance") (dF K):=by
 subst hK;unfold dF;exact gQ.or Fk
@[irreducible] def dH(K:Frag):List V->Hp->VK->Prop:=λxs H Q=>∃p ys,xs=[.ref p]/\(SqL K H p ys∨SqT K H p ys)/\∀l,H l=none->Q (.ref l) (upd H l (.lst ys))
theorem FV(K:Frag)(hK:X.K=K:=by rfl):CallR X (.type "list") (dH K):=by
 subst hK;unfold dH;exact DY
def vY(K:Frag)(ta:TE):TT:=fun σ H Q=>ta σ H λx H'=>∃k,kN K x H' k/\Q k H'
theorem FW(K:Frag){a:Expr}{ta:TE}(ha:PE X a ta)(he:∀whole,isTrue a X.env whole=(do let v ←whole;standAt a.pos;holding [v] (truthy v)))(hK:X.K=K:=by rfl):PT X a (vY K ta):=by
 subst hK;exact De ha he
@[irreducible] def dI:R2:=λx y H Q=>rZ x y H Q∨∃d:Dt,Q4 H d x/\Q4 H d y/\d.Fine/\d.deep<=100/\Q (.bl false) H
theorem FX{k:Nat}(hr:Room k X.A):OpR X (compareOp .NotEq) dI:=by
 unfold dI;exact cS.or (FH hr)
end
section
variable{K:Frag}{H:Hp}{Q:VK}{a b p:Addr}{xs ys:List V}{kvs:List (B1×V)}
theorem J3{i j:Int}(q:Q (.int (i+j)) H):R6 K (.int i) (.int j) H Q:=by
 unfold R6;exact .inl ⟨_,_,rfl,rfl,q⟩
theorem K3{i j:Str}(h:i.length+j.length<=sizeLine)(q:Q (.str (i++j)) H):R6 K (.str i) (.str j) H Q:=by
 unfold R6;exact .inr (.inl ⟨_,_,rfl,rfl,h,q⟩)
theorem dJ(ha:H a=some (.lst xs))(hb:H b=some (.lst ys))(h:xs.length+ys.length<=sizeLine)(q:∀p,H p=none->Q (.ref p) (upd H p (.lst (xs++ys)))):R6 K (.ref a) (.ref b) H Q:=by
 unfold R6;exact .inr (.inr (.inl ⟨a,b,xs,ys,rfl,rfl,ha,hb,h,q⟩))
theorem dL{i:Int}{v:V}(h:H a=some (.tup xs))(e:I0 xs i=some v)(q:Q v H):N0 K (.ref a) (.int i) H Q:=by
 unfold N0;exact .inl ⟨a,xs,i,v,rfl,rfl,SqT.of h,e,q⟩
theorem vZ{α:Type}(x:α)(xs:List α):I0 (x::xs) 0=some x:=L1 (j:=0) rfl
theorem N2{i:Int}{v:V}(h:SqL K H a xs)(e:I0 xs i=some v)(q:Q v H):N0 K (.ref a) (.int i) H Q:=by
 unfold N0;exact .inr (.inl ⟨a,xs,i,v,rfl,rfl,h,e,q⟩)
theorem FY{y v:V}(g:DGet H a y (some v))(q:Q v H):N0 K (.ref a) y H Q:=by
 unfold N0;exact .inr (.inr (.inl ⟨a,v,rfl,g,q⟩))
theorem FZ{k:Str}{v:V}(h:H a=some (.dK kvs))(e:M5 kvs (Sum.inr k)=some v)(q:Q v H):N0 K (.ref a) (.str k) H Q:=FY (by rw[←e];exact DGet.k (k:=Sum.inr k) h) q
theorem mB{k:Str}{v:V}{R:Hp->Prop}(h:H a=some (.dK kvs))(hl:kvs.length<sizeLine)(q:R (upd H a (.dK (L4 kvs (Sum.inr k) v)))):aF (.ref a) (.str k) v H R:=by
 unfold aF;exact .inl ⟨a,_,rfl,DPut.k (k:=Sum.inr k) h hl,q⟩
theorem Ga{lo hi:Option Int}(h:SqL K H a xs)(q:∀p,H p=none->Q (.ref p) (upd H p (.lst (V8 xs lo hi)))):dE K (.ref a) lo hi H Q:=by
 unfold dE;exact .inl ⟨a,xs,rfl,h,q⟩
theorem bL(h:SqL K H a xs)(q:Q (.int xs.length) H):aG K [.ref a] H Q:=by
 unfold aG;exact .inl ⟨_,_,rfl,.inl ⟨xs,h,rfl⟩,q⟩
theorem W1{x:V}{n:String}{t:Value}{c:Bool}(h:TyOf K H x t)(e:kitOne K t (.type n)=some c)(q:Q (.bl c) H):dF K [x,.ty n] H Q:=by
 unfold dF;exact .inl ⟨x,n,t,c,rfl,h,e,q⟩
theorem Gb(h:SqL K H a xs)(q:∀l,H l=none->Q (.ref l) (upd H l (.lst xs))):dH K [.ref a] H Q:=by
 unfold dH;exact⟨a,xs,rfl,.inl h,q⟩
theorem O6{z:Str}{i:Int}{c:Nat}(hz:z.length<=sizeLine)(e:I0 z.cps.toList i=some c)(q:Q (.str ⟨#[c]⟩) H):N0 K (.str z) (.int i) H Q:=by
 unfold N0;exact .inr (.inr (.inr ⟨z,i,c,rfl,rfl,hz,e,q⟩))
theorem Gc{x y:V}(h:kM x y=true)(q:Q (.bl (!decide (x=y))) H):dI x y H Q:=by
 unfold dI;exact .inl ⟨h,q⟩
end
def X5:Expr->Bool
 |.Starred _ _=>true
 |_=>false
theorem N8{e:Expr}{es:List Expr}{env:Env}(h:X5 e=false):starEach (e::es) env=(false,eval e env)::starEach es env:=by
 cases e<;>first|rfl|cases h
def M3(es:List Expr):Bool:=es.all λe=>!X5 e
theorem L6{e:Expr}{es:List Expr}(h:M3 (e::es)=true):X5 e=false/\M3 es=true:=by
 unfold M3 at h ⊢;rw[all_cons,Bool.and_eq_true,Bool.not_eq_true']at h;exact h
theorem U3{pos:Pos}{env:Env}:∀{es:List Expr},M3 es=true->(backTo pos (starEach es env)).any (·.1)=false
 |[],_=>rfl
 |e::es,h=>by
  obtain⟨h1,h2⟩:=L6 h;rw[N8 h1];exact U3 (pos:=pos) (env:=env) h2
theorem mD{pos:Pos}{env:Env}:∀{es:List Expr},M3 es=true->(backTo pos (starEach es env)).all (λx=>!x.1)=true
 |[],_=>rfl
 |e::es,h=>by
  obtain⟨h1,h2⟩:=L6 h;rw[N8 h1];exact mD (pos:=pos) (env:=env) h2
section
variable{X:Cx}{e o:Expr}{es:List Expr}{te to:TE}{t:TA}{id T:String}{r:List V->Hp->VK->Prop}{x:Str}{p pos apos cpos:Pos}
theorem Gd(ha:PE X e te)(hr:PA X es t)(h:X5 e=false:=by rfl):PA X (e::es) (aX te t):=L0 ha hr (N8 h)
theorem Ge(hc:CallR X (.builtin id) r)(hg:Gl X x)(hm:X.mg x=none)(hv:bootBuiltins x=some (.builtin id))(ha:PA X (e::es) t)(hn:x≠"__name__":=by decide)(hdb:(x==("__debug__" : Str))=false:=by decide)
  (hs:M3 (e::es)=true:=by rfl):PE X (.Call (.Name x p) (e::es) [] pos) (aY r t):=aZ hc hg hm hv ha hn hdb (N8 (L6 hs).1) (U3 (L6 hs).2)
theorem Gf(hc:CallR X (.type T) r)(hg:Gl X x)(hm:X.mg x=none)(hv:bootBuiltins x=some (.type T))(ha:PA X (e::es) t)(hn:x≠"__name__":=by decide)(hdb:(x==("__debug__" : Str))=false:=by decide)
  (hs:M3 (e::es)=true:=by rfl):PE X (.Call (.Name x p) (e::es) [] pos) (aY r t):=Dz hc hg hm hv ha hn hdb (N8 (L6 hs).1) (U3 (L6 hs).2)
theorem Gg{name:Str}{rm:V->List V->Hp->VK->Prop}(K:Frag)(pa:PlainAttrs T)(slot:Slot T name id)(hty:typeOf (.builtin id)=pure (.type "method_descriptor"))(hm:cV X id rm)(ho:PE X o to)(ha:PA X (e::es) t)
  (hbase:attributeBase o name X.env (eval o X.env)=eval o X.env:=by rfl) (hfew:(e::es).length<30:=by decide) (hline:(apos.endLine==cpos.line)=true:=by rfl) (hs:M3 (e::es)=true:=by rfl) (hK:X.K=K:=by rfl):
  PE X (.Call (.Attribute o name apos) (e::es) [] cpos) (lF K T rm to t):=by
 subst hK;refine Ea pa slot hty hm ho ha hbase ?_ hline (N8 (L6 hs).1) (U3 (L6 hs).2);rw[mD hs,Bool.true_and];show(true&&decide ((e::es).length+0+0<30))=true;rw[Bool.true_and];exact decide_eq_true hfew
theorem Gh{name:Str}{rm:V->List V->Hp->VK->Prop}(K:Frag)(pa:PlainAttrs T)(slot:Slot T name id)(hty:typeOf (.builtin id)=pure (.type "method_descriptor"))(hm:cV X id rm)(ho:PE X o to)
  (hbase:attributeBase o name X.env (eval o X.env)=eval o X.env:=by rfl) (hline:(apos.endLine==cpos.line)=true:=by rfl) (hK:X.K=K:=by rfl):PE X (.Call (.Attribute o name apos) [] [] cpos) (lE K T rm to):=by
 subst hK;exact DZ pa slot hty hm ho hbase hline
end
def D8(P:Program)(w:World)(K:Frag)(mg:Str->Option Value)(base:Heap)(x:Str)(k:Nat)(ps:List Str)(sp:Sp):Prop:=
 ∃f fd,FnOk P w K mg base C6 k f fd ps sp/\Binds K fd ps []/\keepIn K (.ref f)=true/\mg x=some (.ref f)
theorem Gi{X:Cx}{x:Str}{k j:Nat}{ps:List Str}{sp:Sp}{p pos:Pos}{e:Expr}{es:List Expr}{t:TA}(h:D8 X.prog X.w X.K X.mg X.base x k ps sp)(hr:Room j X.A)(hkj:k<=j)(hg:Gl X x)(ha:PA X (e::es) t)
  (hdb:(x==("__debug__" : Str))=false:=by decide) (hs:M3 (e::es)=true:=by rfl):
  PE X (.Call (.Name x p) (e::es) [] pos) (fX sp [] E0 t):=by
 obtain⟨f,fd,F,b,kp,m⟩:=h;exact kW F (hr.mono hkj) hg m kp b .nil bD ha hdb (N8 (L6 hs).1) (U3 (L6 hs).2)
structure Walk(J:It)(C:Hp->Prop)(n:Nat)(y:Nat->V->Hp->Hp->Prop):Prop where
 go:∀i H,C H->i<n->J.go i H
 stop:∀i H,C H->i=n->J.stop i H
 yld:∀i H v H',C H->i<n->J.yld i H v H'->y i v H H'
section
variable{J:It}{C:Hp->Prop}{n:Nat}{y:Nat->V->Hp->Hp->Prop}
theorem gU{g:TG}{tb:TS}{D:Ends}{σ:L2.St}{H:Hp}(Wk:Walk J C n y)(Pv:Nat->L2.St->Hp->Prop)(h0:Pv 0 σ H)(hl:∀i σ H,i<=n->Pv i σ H->C H)
  (hs:∀i x σ H H',i<n->Pv i σ H->y i x H H'->g x σ H' fun σ2 H2=>tb {D with nx:=Pv (i+1),ct:=Pv (i+1),bk:=D.nx} σ2 H2) (hd:∀σ H,Pv n σ H->D.nx σ H):
  ∃W:Nat->Nat->L2.St->Hp->Prop,(∃m,W 0 m σ H)/\∀i m σ H,W i m σ H->
   (J.stop i H/\D.nx σ H)∨(J.go i H/\∃N:L2.St->Hp->Prop,(∀σ' H',N σ' H'->∃m',m'<m/\W (i+1) m' σ' H')/\∀x H',J.yld i H x H'->g x σ H' fun σ2 H2=>tb {D with nx:=N,ct:=N,bk:=D.nx} σ2 H2):=by
 refine⟨λi m σ H=>m=n-i/\i<=n/\Pv i σ H,⟨n,!2,zero_le _,h0⟩,?_⟩;rintro i m σ H ⟨rfl,hi,p⟩;have q:=hl i σ H hi p;by_cases hlt:i<n
 ·exact .inr ⟨Wk.go i H q hlt,Pv (i+1),fun σ' H' p'=>⟨n-(i+1),!1,rfl,hlt,p'⟩,λx H' z=>hs i x σ H H' hlt p (Wk.yld i H x H' q hlt z)⟩
 ·have e:i=n:=by omega
  subst e;exact .inl ⟨Wk.stop i H q rfl,hd σ H p⟩
theorem gW{U:TU}{k:Nat}{fr:List (Str×Nat)}{tt:TT}{te:TE}{σ:L2.St}{Kf:List V->Hp->Prop}{H:Hp}(Wk:Walk J C n y)(Pv:Nat->List V->Hp->Prop)(hz:n<=sizeLine)(h0:Pv 0 [] H)(hl:∀i ys H,i<=n->Pv i ys H->C H/\ys.length<=i)
  (hs:∀i x ys H H',i<n->Pv i ys H->y i x H H'->∃vs,U x vs H'/\vs.length=k/\tt (M2 (vs.map some) fr σ) H' λok H2=>if ok=true then te (M2 (vs.map some) fr σ) H2 (λz H3=>Pv (i+1) (ys++[z]) H3)else Pv (i+1) ys H2)
  (hd:∀ys H,Pv n ys H->Kf ys H):gS U k fr tt te σ Kf J H:=by
 refine⟨λi m ys H=>m=n-i/\i<=n/\Pv i ys H,⟨n,!2,zero_le _,h0⟩,?_⟩;rintro i m ys H ⟨rfl,hi,p⟩;obtain⟨q,hy⟩:=hl i ys H hi p;by_cases hlt:i<n
 ·exact .inr ⟨Wk.go i H q hlt,!1,λz H3=>Pv (i+1) (ys++[z]) H3,Pv (i+1) ys,λz H2 p'=>⟨n-(i+1),!1,rfl,hlt,p'⟩,λH2 p'=>⟨n-(i+1),!1,rfl,hlt,p'⟩,λx H' z=>hs i x ys H H' hlt p (Wk.yld i H x H' q hlt z)⟩
 ·have e:i=n:=by omega
  subst e;exact .inl ⟨Wk.stop i H q rfl,!1,hd ys H p⟩
theorem X6{U:TU}{k:Nat}{fr:List (Str×Nat)}{te:TE}{σ:L2.St}{Kf:List V->Hp->Prop}{H:Hp}(Wk:Walk J C n y)(Pv:Nat->List V->Hp->Prop)(hz:n<=sizeLine)(h0:Pv 0 [] H)(hl:∀i ys H,i<=n->Pv i ys H->C H/\ys.length<=i)
  (hs:∀i x ys H H',i<n->Pv i ys H->y i x H H'->∃vs,U x vs H'/\vs.length=k/\te (M2 (vs.map some) fr σ) H' (λz H3=>Pv (i+1) (ys++[z]) H3))
  (hd:∀ys H,Pv n ys H->Kf ys H):gS U k fr bJ te σ Kf J H:=
 gW Wk Pv hz h0 hl (λi x ys H H' hi p z=>by
  obtain⟨vs,h1,h2,h3⟩:=hs i x ys H H' hi p z;refine⟨vs,h1,h2,?_⟩;unfold bJ;dsimp only;rw[if_pos rfl];exact h3) hd
end
theorem gX{K:Frag}{a:Addr}{xs:List V}:Walk (aV K a) (λH=>SqL K H a xs) xs.length (λi v H H'=>H'=H/\xs[i]?=some v) where
 go:=λi H q hi=>⟨xs,xs[i],q,by simp[hi]⟩
 stop:=λi H q hi=>⟨xs,q,!1⟩
 yld:=λi H v H' q hi z=>⟨z.1,z.2 xs q⟩
theorem gY{lo:Int}{n:Nat}:Walk (fP lo n) (λ_=>True) n (λi v H H'=>H'=H/\v=.int (lo+i)) where
 go:=λi H q hi=>hi
 stop:=λi H q hi=>by show n<=i;omega
 yld:=λi H v H' q hi z=>z
end Rg
namespace Rg
open PySem PySem.W PySem.Spec PyProof.Rows L2
section
variable{X:Cx}{elt iter:Expr}{cs:List Expr}{x y z:Str}{px pyy pz pt pos:Pos}{kt:Nat}{scope:Scope}{fr:List (Str×Nat)}{wi:TI}{te:TE}{tt:TT}
theorem wA(hc:X.calm=true)(hcs:cs=[]∨∃c,cs=[c])(hi:PI X (.Name x px) iter wi)(S:LcOkG X [x] fr scope)(hT:∀fp C s H,W0 (E9 X [x] fr scope fp C s H) cs tt)(he:∀fp C s H,PE (E9 X [x] fr scope fp C s H) elt te)
  (hs:∀v,foldedSetIterable iter X.env v=pure v:=by intro _;rfl):PE X (.ListComp elt [⟨.Name x px,iter,cs,0⟩] scope pos) (bK dA 1 fr wi tt te):=Fs hc hcs hi S (vL S) hT he hs
variable{i:Nat}{v:Str}{pv' spos:Pos}
theorem Gj(hN:X.N.Nodup)(hiN:X.N[i]?=some v)(hyL:V5 X.env.scope v)(hc:X.calm=true)(hcs:cs=[]∨∃c,cs=[c])(hi:PI X (.Name x px) iter wi)(S:LcOkG X [x] fr scope)(hT:∀fp C s H,W0 (E9 X [x] fr scope fp C s H) cs tt)(he:∀fp C s H,PE (E9 X [x] fr scope fp C s H) elt te)
  (hs:∀v,foldedSetIterable iter X.env v=pure v:=by intro _;rfl) (hsw:swapsWith (.ListComp elt [⟨.Name x px,iter,cs,0⟩] scope pos) (some (.Name v pv')) spos.line X.env=pure true:=by rfl)
  (hfn:X.fn v=true∨X.env.scope.names.lookup v=some .local:=by first|exact .inl rfl|exact .inr rfl|assumption):PS X (.Assign [.Name v pv'] (.ListComp elt [⟨.Name x px,iter,cs,0⟩] scope pos) spos) (Z8 (bK dA 1 fr wi tt te) (V7 i)):=Ft hN hiN hyL hc hcs hi S (vL S) hT he hs hsw hfn
end
structure Blt(mg:Str->Option Value):Prop where
 len:mg "len"=none
 isi:mg "isinstance"=none
 list:mg "list"=none
 dict:mg "dict"=none
 sorted:mg "sorted"=none
 rev:mg "reversed"=none
 range:mg "range"=none
 int:mg "int"=none
 bool:mg "bool"=none
 str:mg "str"=none
 sum:mg "sum"=none
 zip:mg "zip"=none
 abs:mg "abs"=none
 min:mg "min"=none
 max:mg "max"=none
 all:mg "all"=none
 enum:mg "enumerate"=none
 tuple:mg "tuple"=none
end Rg
namespace Rg
open PySem PySem.W PySem.Spec PyProof.Rows L2
def mE(t u:TS):TS:=λD σ H=>∃M:L2.St->Hp->Prop,t {D with nx:=M} σ H/\∀σ' H',M σ' H'->u D σ' H'
theorem Gk{X:Cx}{st:Stmt}{E3:List Stmt}{t u:TS}(h1:PS X st t)(h2:PSs X E3 u):PSs X (st::E3) (mE t u):=by
 intro ζ s σ H D I h;obtain⟨M,h,hM⟩:=h;refine wpAny_execs_cons (A9 (h1 ζ s σ H {D with nx:=M} I h) λf s1 q=>?_);cases f with
 |next=>
  obtain⟨σ',H',I',q⟩:=q;exact h2 ζ s1 σ' H' D I' (hM σ' H' q)
 |ret v=>exact q
 |brk=>exact q
 |cont=>exact q
end Rg
namespace Rg
open PySem L2
theorem F2{c:Bool}{A B:Prop}(e:c=true)(h:A):if c=true then A else B:=by rw[e];exact C8 h
theorem G3{c:Bool}{A B:Prop}(e:c=false)(h:B):if c=true then A else B:=by rw[e];exact C0 h
theorem G7{n:Nat}(h:n<=1000):n<=sizeLine:=le_of_lt (uE h)
end Rg
namespace Rg
open PySem PySem.W PySem.Spec PyProof.Rows L2
def mH(K:Frag)(a:Addr):It:=
 ⟨λi H=>∃xs x,SqL K H a xs/\xs[i]?=some x,λi H v H'=>∃T x,v=.ref T/\H T=none/\H'=upd H T (.tup [.int (i:Nat),x])/\∀xs,SqL K H a xs->xs[i]?=some x,λi H=>∃xs,SqL K H a xs/\xs.length=i⟩
theorem Gm{P:Program}{w:World}{K:Frag}{elts:List Expr}{kt:Nat}{pos:Pos}(a e it:Addr)(h1:e≠it)(h2:a≠e)(h3:a≠it):
  Turn P w K (.Tuple elts kt pos) (mH K a) [e,it] e (λi h=>(∃old,IsEnum h e it i old)/\h.IsListIter it a i) where
 mem:=by simp
 obj:=λi h st c hc=>by
  obtain⟨⟨old,he⟩,⟨o1,e1,c1,d1⟩⟩:=st;have z:c=e∨c=it:=by simpa using hc
  rcases z with rfl|rfl
  ·exact⟨_,he,λv z=>by cases z⟩
  ·exact⟨_,e1,λv z=>by rw[d1]at z;cases z⟩
 keep:=λi h h' st k=>by
  obtain⟨⟨old,he⟩,hi⟩:=st;exact⟨⟨old,k e (!2) _ he⟩,hi.at λo x=>k it (!2) o x⟩
 item:=by
  intro X hP hw hK hc i ζ s σ H E I hf st hg;subst hP hw hK;obtain⟨xs,x,hq,hx⟩:=hg;obtain⟨its,rv,p,hz⟩:=I.list hq;obtain⟨u,hu,ru⟩:=rv.get hx;have W:=WalksT.enumerate (prog:=X.prog) (w:=X.w) (A:=X.A) (I.ok.hd hc) e it a h1 h2 h3 its.toArray;have li:i<its.length:=(List.getElem?_eq_some_iff.mp hu).1;refine W.item i s _ _ (by rw[size_toArray];exact li) ⟨st.1,st.2,p.isList⟩ λT vals h1' tk hPt hT hTup hMid hk=>?_
  obtain⟨t,v1,e1,rfl⟩:=hPt;have e1':v1=u:=by
   have z1:its[i]?=some v1:=by simpa using e1
   exact Option.some.inj (z1.symm.trans hu)
  subst e1';refine⟨.ref T,rfl,W.go elts kt pos i T {s with heap:=h1',toks:=tk} _ _ hMid λh2' st2 hk2=>?_⟩;have nw:T∉[e,it]:=W.apart i T _ hMid;have I1:Inv X ζ σ H {s with heap:=h2',toks:=tk}:=uY I (λc o hb e=>hk2 c o hb (hk c o hb e)) hf;have hTn:H T=none:=I.hok.fresh hT;have fT:G6 X ζ H T:=I.fpOk hT hTn;have hTup2:h2'.IsTuple T #[.int i t,v1]:=hTup.at λo e=>hk2 T o nw e
  have I2:Inv X ζ σ (upd H T (.tup [.int (i:Nat),x])) {s with heap:=h2',toks:=tk}:=gM I1 fT (le_trans I.sz hT) ⟨by show 2<=sizeLine;decide,[.int i t,v1],.cons ⟨t,rfl⟩ (.cons ru .nil),hTup2⟩;obtain⟨t1,t2,_⟩:=st2;refine⟨.ref T,upd H T (.tup [.int (i:Nat),x]),I2,rfl,⟨T,x,rfl,hTn,rfl,λxs' h'=>?_⟩,⟨t1,t2⟩,λc hc=>?_⟩
  ·rw[I.list_inj h' hq];exact hx
  ·have hne:c≠T:=λz=>nw (by rw[←z];exact hc)
   rw[B4 hne];exact(hf c hc).1
 done:=by
  intro X hP hw hK hc i ζ s σ H E I hf st hg;subst hP hw hK;obtain⟨xs,hq,hx⟩:=hg;obtain⟨its,rv,p,hz⟩:=I.list hq;have W:=WalksT.enumerate (prog:=X.prog) (w:=X.w) (A:=X.A) (I.ok.hd hc) e it a h1 h2 h3 its.toArray;have hl:=rv.length;have en:its.toArray.size=i:=by rw[size_toArray,←hl];exact hx
  exact W.done s _ _ (by rw[en];exact⟨st.1,st.2,p.isList⟩) λh1 tk hk=>⟨rfl,uY I (λc o hb e=>hk c o hb e) hf⟩
 self:=λ_ _ _ _ _ st h=>by
  obtain⟨⟨old,he⟩,_⟩:=st;exact wpAny_pyIter_enum he h
section
variable{X:Cx}
def wB(K:Frag)(ta:TA):TI:=fun σ H R=>ta σ H λvs H1=>∃a,vs=[.ref a]/\(∃xs,SqL K H1 a xs)/\R (mH K a) H1
theorem Gn{elts:List Expr}{kt:Nat}{pt:Pos}{a:Expr}{ta:TA}{p pos:Pos}(hg:Gl X "enumerate")(hm:X.mg "enumerate"=none)(ha:PA X [a] ta)(hs:starEach [a] X.env=[(false,eval a X.env)]:=by rfl):
  PI X (.Tuple elts kt pt) (.Call (.Name "enumerate" p) [a] [] pos) (wB X.K ta):=by
 intro ζ s σ H R I h;refine Call_ (X1 I hg hm boot_enumerate (PyProof.Rows.callWith_type1 (A9 (ha pos ζ s σ H _ I h) λus s1 ⟨vs,H1,I1,r1,q1⟩=>?_) hs rfl));obtain⟨a,e,⟨xs,hq⟩,q⟩:=q1;subst e;cases r1 with
 |cons r rr=>
  cases rr;cases r;obtain⟨its,rv,p1,hz⟩:=I1.list hq;have lt1:a<s1.heap.objs.size:=by obtain⟨o,e,_⟩:=p1.isList;exact Heap.lt_size e
  refine call_enumerate_list p1.isList λh' hE hI hsz hk=>?_
  refine wpAny_pyIter_enum hE ?_;have I2:Inv X ζ σ H1 {s1 with heap:=h'}:=I1.kept (t':=s1.toks) hk;refine⟨s1.heap.objs.size+1,[s1.heap.objs.size+1,s1.heap.objs.size],_,_,H1,rfl,I2,Gm a _ _ (Nat.succ_ne_self _) (ne_of_lt (lt_succ_of_lt lt1)) (ne_of_lt lt1),⟨⟨_,hE⟩,hI⟩,λc hc=>?_,q⟩;have hle:s1.heap.objs.size<=c:=by
   have e:c=s1.heap.objs.size+1∨c=s1.heap.objs.size:=by simpa using hc
   have:∀n:Nat,(c=n+1∨c=n)->n<=c:=λn h=>by rcases h with h|h<;>(rw[h];first|exact le_add_right _ _|exact le_refl _)
   exact this _ e
  exact I1.fpOk hle (I1.hok.fresh hle)
end
theorem Go{K:Frag}{a:Addr}{xs:List V}:Walk (mH K a) (λH=>SqL K H a xs) xs.length (λi v H H'=>∃T x,v=.ref T/\H T=none/\H'=upd H T (.tup [.int (i:Nat),x])/\xs[i]?=some x) where
 go:=λi H q hi=>⟨xs,xs[i],q,by simp[hi]⟩
 stop:=λi H q hi=>⟨xs,q,hi.symm⟩
 yld:=λi H v H' q hi z=>by
  obtain⟨T,x,h1,h2,h3,h4⟩:=z;exact⟨T,x,h1,h2,h3,h4 xs q⟩
theorem Gp{X:Cx}(hc:X.calm=true):CallR X (.builtin "all") (λxs H Q=>∃(a:Addr)(bs:List Bool),xs=[.ref a]/\H a=some (.lst (bs.map V.bl))/\Q (.bl (bs.all id)) H):=by
 intro ζ s σ H xs us Q I r h;obtain⟨a,bs,rfl,ha,q⟩:=h;obtain⟨u,rfl,ru⟩:=K9 r;cases ru;obtain⟨_,its,n,rv,e⟩:=I.hok a _ ha;have hl:s.heap.IsList a its.toArray:=⟨_,e,rfl,n,rfl⟩;have hb:=vI rv;have hlt:a<s.heap.objs.size:=Heap.lt_size e;refine call_all_walk (wpAny_pyIter_list hl ?_);refine⟨s.heap.objs.size,[s.heap.objs.size,a],[s.heap.objs.size],its.toArray.size,_,_,λi=>(bs[i]?).getD true,rfl,Walks.list (A:=X.A.in1) (I.ok.hd hc) _ a (ne_of_lt hlt) its.toArray,
  ⟨⟨_,Heap.get?_push_size _ rfl,rfl,rfl⟩,hl.push _⟩,λi v s' Q' E' hP hQ=>?_,λh' tk hk=>?_⟩
 ·have hP':its[i]?=some v:=by simpa using hP
  rw[hb,getElem?_map]at hP';cases eb:bs[i]? with
  |none=>rw[eb]at hP';cases hP'
  |some b=>
   rw[eb]at hP';cases hP';simp only[eb,getD_some]at hQ;exact wpAny_truthy_bool hQ
 ·have e2:((List.range its.toArray.size).all λi=>(bs[i]?).getD true)=bs.all id:=by
   have hn:its.toArray.size=bs.length:=by rw[size_toArray,hb,length_map]
   rw[hn];apply Bool.eq_iff_iff.mpr;rw[all_eq_true,all_eq_true];constructor
   ·intro z x hx
    obtain⟨i,hi,e⟩:=getElem_of_mem hx;have y:=z i (mem_range.mpr hi);rw[getElem?_eq_getElem hi]at y;rw[←e];exact y
   ·intro z i hi
    have hi':=mem_range.mp hi;rw[getElem?_eq_getElem hi'];exact z _ (getElem_mem hi')
  rw[e2];exact⟨.bl (bs.all id),H,I.kept (t':=tk) (LSm.kept_iter hk),rfl,q⟩
end Rg
namespace Rg
open PySem PySem.W PySem.Spec PyProof.Rows L2
structure QE(X:Cx)(e:Expr)(t:TE):Prop where h:PE X e t
structure QT(X:Cx)(e:Expr)(t:TT):Prop where h:PT X e t
structure QW(X:Cx)(e:Expr)(t:TT):Prop where h:PW X e t
structure QA(X:Cx)(es:List Expr)(t:TA):Prop where h:PA X es t
structure QS(X:Cx)(st:Stmt)(t:TS):Prop where h:PS X st t
structure QSs(X:Cx)(sts:List Stmt)(t:TS):Prop where h:PSs X sts t
structure QI(X:Cx)(tg iter:Expr)(wi:TI):Prop where h:PI X tg iter wi
structure QG(X:Cx)(tg:Expr)(t:TG):Prop where h:PG X tg t
structure QGs(X:Cx)(tgs:List Expr)(t:V6):Prop where h:cQ X tgs t
structure QO(X:Cx)(e:Option Expr)(t:TO):Prop where h:PO X e t
structure QTs(X:Cx)(cs:List Expr)(t:TT):Prop where h:W0 X cs t
structure QOp(X:Cx)(f:Value->Value->Sem Value)(r:R2):Prop where h:OpR X f r
structure QC(X:Cx)(f:Value)(r:List V->Hp->VK->Prop):Prop where h:CallR X f r
structure QM(X:Cx)(id:String)(r:V->List V->Hp->VK->Prop):Prop where h:cV X id r
section
variable{X:Cx}{a b c e o i value:Expr}{es E3:List Expr}{ta tb tc te to ti tv td ty:TE}{tA tB' tt:TT}{t:TA}{pos pos' p px pyy pz pt tpos apos cpos:Pos}{x y z f name:Str}{K:Frag}
theorem qv(i:Nat){x:Str}{pos:Pos}(hN:X.N[i]?=some x:=by rfl)(hv:cP X.env.scope x:=by first|exact Or.inl rfl|exact Or.inr (Or.inl rfl)|exact Or.inr (Or.inr rfl))(hd:(x==("__debug__" : Str))=false:=by decide)
  (hcd:(x==("__classdict__" : Str))=false:=by decide):QE X (.Name x pos) (fH i):=⟨qV hN hv hd hcd⟩
theorem bM{v:V}{u:Value}(hg:Gl X x)(hm:X.mg x=some u)(r:RelV v u)(hd:(x==("__debug__" : Str))=false:=by decide):QE X (.Name x pos) (tC v):=⟨qX hg hm r hd⟩
theorem bN{v:V}{u:Value}(hg:Gl X x)(hm:X.mg x=none)(hv:bootBuiltins x=some u)(r:RelV v u)(hn:x≠"__name__":=by decide)(hd:(x==("__debug__" : Str))=false:=by decide):QE X (.Name x pos) (tC v):=⟨fJ hg hm hv r hn hd⟩
theorem A2{i:Int}{j}:QE X (.Constant (.int i) j pos) (tC (.int i)):=⟨BZ⟩
theorem N3{b:Bool}{j}:QE X (.Constant (.bool b) j pos) (tC (.bl b)):=⟨Ca⟩
theorem X7{j}:QE X (.Constant .none j pos) (tC .non):=⟨Cb⟩
theorem A5{x:Str}{j}:QE X (.Constant (.str x) j pos) (tC (.str x)):=⟨qW⟩
theorem A3{op:Operator}{r:R2}(ho:QOp X (binaryOp op) r)(ha:QE X a ta)(hb:QE X b tb):QE X (.BinOp a op b pos) (T8 r ta tb):=⟨CD ho.h ha.h hb.h⟩
theorem aH(ha:QE X a ta):QE X (.UnaryOp .USub a pos) (rT (rU λi=>.int (-i)) ta):=⟨CF CP ha.h⟩
theorem Gq{op}(ha:QE X a ta):QE X (.BoolOp op [a] pos) ta:=⟨Ch ha.h⟩
theorem wC(ha:QE X a ta)(hb:QE X (.BoolOp .And (b::E3) pos) tb):QE X (.BoolOp .And (a::b::E3) pos) (rB ta tb):=⟨Ci ha.h hb.h⟩
theorem R7{op:CmpOp}{r:R2}(ho:QOp X (compareOp op) r)(ha:QE X a ta)(hb:QE X b tb)(hm:behindInMarks op b=false):QE X (.Compare a [op] [b] pos) (T8 r ta tb):=⟨CY ho.h ha.h hb.h hm⟩
theorem D0{op:CmpOp}{r:R2}(ho:QOp X (compareOp op) r)(ha:QE X a ta)(hb:QE X b tb)(hm:behindInMarks op b=false):QT X (.Compare a [op] [b] pos) (fV (T8 r ta tb)):=⟨CZ ho.h ha.h hb.h hm⟩
theorem gZ{op op':CmpOp}{r r':R2}(ho:QOp X (compareOp op) r)(ho':QOp X (compareOp op') r')(ha:QE X a ta)(hb:QE X b tb)(hc:QE X c tc)(hm:lastMarks [op,op'] [b,c]=false):QT X (.Compare a [op,op'] [b,c] pos) (fV (sE r r' ta tb tc)):=⟨Db ho.h ho'.h ha.h hb.h hc.h hm⟩
theorem Gr(hc:QT X c tA)(ha:QE X a ta)(hb:QE X b tb):QE X (.IfExp c a b pos) (rD tA ta tb):=⟨Cj hc.h ha.h hb.h⟩
theorem R8:QO X none tI:=⟨DI⟩
theorem L7(h:QE X e te):QO X (some e) (tJ te):=⟨DJ h.h⟩
theorem Gs(K:Frag){lo hi:Option Expr}{tl th:TO}{p2:Pos}(he:QE X e te)(hl:QO X lo tl)(hu:QO X hi th)(hK:X.K=K:=by rfl):QE X (.Subscript e (.Slice lo hi none p2) pos) (kZ (dE K) te tl th):=⟨tK (FQ K hK) he.h hl.h hu.h⟩
theorem E4(K:Frag)(hu:X.A.units+1<cLine)(ha:QE X a ta)(hb:QE X b tb)(hs:tP b)(hK:X.K=K:=by rfl):QE X (.Subscript a b pos) (T8 (N0 K) ta tb):=⟨DM (FN K hu hK) ha.h hb.h hs⟩
theorem S9(K:Frag)(he:QE X e ta)(hb:attributeBase e f X.env (eval e X.env)=eval e X.env)(hK:X.K=K:=by rfl):QE X (.Attribute e f pos) (sO K ta f):=by
 subst hK;exact⟨Dp he.h hb⟩
theorem bO{x1}(h:QA X es t):QE X (.Tuple es x1 pos) (sS t):=⟨cU h.h⟩
theorem G4(h:QA X es t):QE X (.List es pos) (fW t):=⟨sT h.h⟩
theorem wD:QE X (.Dict [] [] pos) uL:=⟨Ew⟩
theorem A1:QA X [] Z9:=⟨P2⟩
theorem A0(ha:QE X e te)(hr:QA X es t)(h:X5 e=false:=by rfl):QA X (e::es) (aX te t):=⟨Gd ha.h hr.h h⟩
theorem R9{e:Expr}(h:QW X e tA):QT X e tA:=⟨h.h.pt⟩
theorem hJ(ha:QT X a tA):QW X (.BoolOp .And [a] pos) tA:=⟨Cc ha.h⟩
theorem X8(ha:QT X a tA):QW X (.BoolOp .Or [a] pos) tA:=⟨Cd ha.h⟩
theorem dM(ha:QT X a tA)(hb:QW X (.BoolOp .And (b::E3) pos) tB'):QW X (.BoolOp .And (a::b::E3) pos) (qY tA tB'):=⟨Ce ha.h hb.h⟩
theorem W2(ha:QT X a tA)(hb:QW X (.BoolOp .Or (b::E3) pos) tB'):QW X (.BoolOp .Or (a::b::E3) pos) (qZ tA tB'):=⟨Cf ha.h hb.h⟩
theorem P3(ha:QT X a tA):QT X (.UnaryOp .Not a pos) (rA tA):=⟨Cg ha.h⟩
theorem F8(K:Frag)(ha:QE X a ta)(he:∀whole,isTrue a X.env whole=(do let v ←whole;standAt a.pos;holding [v] (truthy v)))(hK:X.K=K:=by rfl):QT X a (vY K ta):=⟨FW K ha.h he hK⟩
theorem E7{id:String}{r:List V->Hp->VK->Prop}(hc:QC X (.builtin id) r)(hg:Gl X x)(hm:X.mg x=none)(hv:bootBuiltins x=some (.builtin id))(ha:QA X (e::es) t)(hn:x≠"__name__":=by decide)(hdb:(x==("__debug__" : Str))=false:=by decide)
  (hs:M3 (e::es)=true:=by rfl):QE X (.Call (.Name x p) (e::es) [] pos) (aY r t):=⟨Ge hc.h hg hm hv ha.h hn hdb hs⟩
theorem U4{T:String}{r:List V->Hp->VK->Prop}(hc:QC X (.type T) r)(hg:Gl X x)(hm:X.mg x=none)(hv:bootBuiltins x=some (.type T))(ha:QA X (e::es) t)(hn:x≠"__name__":=by decide)(hdb:(x==("__debug__" : Str))=false:=by decide)
  (hs:M3 (e::es)=true:=by rfl):QE X (.Call (.Name x p) (e::es) [] pos) (aY r t):=⟨Gf hc.h hg hm hv ha.h hn hdb hs⟩
theorem K4{T id:String}{rm:V->List V->Hp->VK->Prop}(K:Frag)(pa:PlainAttrs T)(slot:Slot T name id)(hty:typeOf (.builtin id)=pure (.type "method_descriptor"))(hm:QM X id rm)(ho:QE X o to)(ha:QA X (e::es) t)
  (hbase:attributeBase o name X.env (eval o X.env)=eval o X.env:=by rfl) (hfew:(e::es).length<30:=by decide) (hline:(apos.endLine==cpos.line)=true:=by rfl) (hs:M3 (e::es)=true:=by rfl) (hK:X.K=K:=by rfl):
  QE X (.Call (.Attribute o name apos) (e::es) [] cpos) (lF K T rm to t):=⟨Gg K pa slot hty hm.h ho.h ha.h hbase hfew hline hs hK⟩
theorem wE{T id:String}{rm:V->List V->Hp->VK->Prop}(K:Frag)(pa:PlainAttrs T)(slot:Slot T name id)(hty:typeOf (.builtin id)=pure (.type "method_descriptor"))(hm:QM X id rm)(ho:QE X o to)
  (hbase:attributeBase o name X.env (eval o X.env)=eval o X.env:=by rfl) (hline:(apos.endLine==cpos.line)=true:=by rfl) (hK:X.K=K:=by rfl):QE X (.Call (.Attribute o name apos) [] [] cpos) (lE K T rm to):=⟨Gh K pa slot hty hm.h ho.h hbase hline hK⟩
theorem D9{k j:Nat}{ps:List Str}{sp:Sp}(h:D8 X.prog X.w X.K X.mg X.base x k ps sp)(hr:Room j X.A)(hkj:k<=j)(hg:Gl X x)(ha:QA X (e::es) t)
  (hdb:(x==("__debug__" : Str))=false:=by decide) (hs:M3 (e::es)=true:=by rfl):QE X (.Call (.Name x p) (e::es) [] pos) (fX sp [] E0 t):=⟨Gi h hr hkj hg ha.h hdb hs⟩
end
section
variable{X:Cx}{tg a b e iter l:Expr}{ta:TA}{te tl:TE}{p pos:Pos}
theorem hV(hg:Gl X "range")(hm:X.mg "range"=none)(ha:QA X [a] ta)(hs:X5 a=false:=by rfl):QI X tg (.Call (.Name "range" p) [a] [] pos) (rR ta):=⟨Cy hg hm ha.h (N8 hs)⟩
theorem Gu(K:Frag){elts:List Expr}{kt:Nat}{pt:Pos}(hg:Gl X "enumerate")(hm:X.mg "enumerate"=none)(ha:QA X [a] ta)(hs:X5 a=false:=by rfl)(hK:X.K=K:=by rfl):QI X (.Tuple elts kt pt) (.Call (.Name "enumerate" p) [a] [] pos) (wB K ta):=by
 subst hK;exact⟨Gn hg hm ha.h (N8 hs)⟩
theorem hX(K:Frag)(hl:QE X l tl)(hK:X.K=K:=by rfl):QI X tg l (rQ K tl):=by
 subst hK;exact⟨kH hl.h⟩
end
section
variable{X:Cx}{tg a b c e o i iter:Expr}{es:List Expr}{body E3:List Stmt}{st:Stmt}{te to ti tv ta:TE}{tc tt:TT}{t u tb:TS}{g:TG}{gs:V6}{wi:TI}{x y z f:Str}{pos pos' tpos px pyy pz pt:Pos}{K:Frag}
theorem bP{i:Nat}(hN:X.N.Nodup)(hi:X.N[i]?=some x)(hx:V5 X.env.scope x)(hf:X.fn x=true∨X.env.scope.names.lookup x=some .local:=by first|exact .inl rfl|exact .inr rfl|assumption):QG X (.Name x pos) (V7 i):=⟨kD hN hi hx hf⟩
theorem wF:QGs X [] rK:=⟨Cm⟩
theorem hZ(h1:QG X e g)(h2:QGs X es gs)(hs:(assignEach (e::es) X.env).map (·.2)=assign e X.env::(assignEach es X.env).map (·.2):=by rfl):QGs X (e::es) (rL g gs):=⟨Cn h1.h h2.h hs⟩
theorem wG(K:Frag){k n:Nat}(hc:X.calm=true)(h:QGs X es gs)(hn:(assignEach es X.env).length=n:=by rfl)(hst:(assignEach es X.env).findIdx? (·.1)=none:=by rfl)(hK:X.K=K:=by rfl):QG X (.Tuple es k pos) (rM K n gs):=by
 subst hK;exact⟨Co hc h.h hn hst⟩
theorem C1:QSs X [] rE:=⟨fM⟩
theorem A7(h:QS X st t):QSs X [st] t:=⟨Z6 h.h⟩
theorem A4(h1:QS X st t)(h2:QSs X E3 u):QSs X (st::E3) (X2 t u):=⟨fN h1.h h2.h⟩
theorem X9(h1:QS X st t)(h2:QSs X E3 u):QSs X (st::E3) (mE t u):=⟨Gk h1.h h2.h⟩
theorem Gv{sts:List Stmt}:QSs X sts rH:=⟨rJ⟩
theorem B3(h:QE X e te):QS X (.Return (some e) pos) (kB te):=⟨Z7 h.h⟩
theorem P4(h:QE X e te)(hs:swapsWith e none pos.line X.env=pure false:=by rfl):QS X (.Expr e pos) (rF te):=⟨Cl h.h hs⟩
theorem B9{sa sb:List Stmt}(hc:QT X c tc)(ha:QSs X sa t)(hb:QSs X sb u):QS X (.If c sa sb pos) (rG tc t u):=⟨fO hc.h ha.h hb.h⟩
theorem bQ(hp:PassesOwn (model X.prog X.w) X.A X.env X.xe)(hc:QT X c tc)(hb:QSs X body tb):QS X (.While c body [] pos) (rO tc tb):=⟨Ct hp hc.h hb.h⟩
theorem iA(hp:PassesOwn (model X.prog X.w) X.A X.env X.xe)(hc:X.calm=true)(hi:QI X tg iter wi)(hg:QG X tg g)(hb:QSs X body tb)(hs:∀x,foldedSetIterable iter X.env x=pure x:=by intro _;rfl):QS X (.For tg iter body [] pos) (rS wi g tb):=⟨CA hp hc hi.h hg.h hb.h hs⟩
theorem B0{i:Nat}(hN:X.N.Nodup)(hi:X.N[i]?=some x)(hx:V5 X.env.scope x)(he:QE X e te)(hs:swapsWith e (some (.Name x pos')) pos.line X.env=pure false:=by rfl)(hf:X.fn x=true∨X.env.scope.names.lookup x=some .local:=by first|exact .inl rfl|exact .inr rfl|assumption):
  QS X (.Assign [.Name x pos'] e pos) (Z8 te (V7 i)):=⟨Cs hN hi hx he.h hs hf⟩
theorem dN(hu:X.A.units+1<cLine)(hv:QE X e te)(ho:QE X o to)(hi:QE X i ti)(hs:swapsWithSole [.Subscript o i pos'] e pos.line X.env=pure false:=by rfl)
  (ha:∀v,assign (.Subscript o i pos') X.env v=(do
   let ov ←holding [v] (eval o X.env)
   let iv ←holding [v,ov] (eval i X.env)
   standAt pos'
   holding [v,ov,iv] (setItem ov iv v)
   release [v,ov,iv] []):=by intro _;rfl) (hw:swappedStores [.Subscript o i pos'] e X.env=pure none:=by rfl):QS X (.Assign [.Subscript o i pos'] e pos) (Z8 te (rN to ti aF)):=
 ⟨Cq hv.h (Cp ho.h hi.h (FP hu) ha) hs hw⟩
theorem wH(K:Frag)(ha:QE X o ta)(hv:QE X e tv)(hs:swapsWith e (some (.Attribute o f pos')) pos.line X.env=pure false)(hK:X.K=K:=by rfl):QS X (.Assign [.Attribute o f pos'] e pos) (sP K ta tv f):=by
 subst hK;exact⟨Dq ha.h hv.h hs⟩
theorem wI(K:Frag){op:Operator}{rd:V->V->Hp->VK->Prop}(ha:QE X o ta)(hv:QE X e tv)(hop:kU X op rd)(hK:X.K=K:=by rfl):QS X (.AugAssign (.Attribute o f tpos) op e pos) (sQ K ta tv rd f):=by
 subst hK;exact⟨Dr ha.h hv.h hop⟩
theorem Y0:QTs X [] bJ:=⟨vJ⟩
theorem mI(h:QT X c tt):QTs X [c] tt:=⟨Fo h.h⟩
variable{elt:Expr}{cs:List Expr}{kt:Nat}{scope:Scope}{fr:List (Str×Nat)}
theorem W3(hc:X.calm=true)(hcs:cs=[]∨∃c,cs=[c])(hi:QI X (.Name x px) iter wi)(S:LcOkG X [x] fr scope)(hT:∀fp C s H,QTs (E9 X [x] fr scope fp C s H) cs tt)(he:∀fp C s H,QE (E9 X [x] fr scope fp C s H) elt te)
  (hs:∀v,foldedSetIterable iter X.env v=pure v:=by intro _;rfl):QE X (.ListComp elt [⟨.Name x px,iter,cs,0⟩] scope pos) (bK dA 1 fr wi tt te):=⟨wA hc hcs hi.h S (λa b c d=>(hT a b c d).h) (λa b c d=>(he a b c d).h) hs⟩
variable{n:Nat}{v:Str}{pv' spos:Pos}
theorem wJ(hN:X.N.Nodup)(hiN:X.N[n]?=some v)(hyL:V5 X.env.scope v)(hc:X.calm=true)(hcs:cs=[]∨∃c,cs=[c])(hi:QI X (.Name x px) iter wi)(S:LcOkG X [x] fr scope)(hT:∀fp C s H,QTs (E9 X [x] fr scope fp C s H) cs tt)(he:∀fp C s H,QE (E9 X [x] fr scope fp C s H) elt te)
  (hs:∀v,foldedSetIterable iter X.env v=pure v:=by intro _;rfl) (hsw:swapsWith (.ListComp elt [⟨.Name x px,iter,cs,0⟩] scope pos) (some (.Name v pv')) spos.line X.env=pure true:=by rfl)
  (hfn:X.fn v=true∨X.env.scope.names.lookup v=some .local:=by first|exact .inl rfl|exact .inr rfl|assumption):QS X (.Assign [.Name v pv'] (.ListComp elt [⟨.Name x px,iter,cs,0⟩] scope pos) spos) (Z8 (bK dA 1 fr wi tt te) (V7 n)):=⟨Gj hN hiN hyL hc hcs hi.h S (λa b c d=>(hT a b c d).h) (λa b c d=>(he a b c d).h) hs hsw hfn⟩
end
section
variable{X:Cx}
theorem B5(K:Frag)(hK:X.K=K:=by rfl):QOp X (binaryOp .Add) (R6 K):=⟨FM K hK⟩
theorem U5:QOp X (binaryOp .Sub) (R4 λi j=>.int (i-j)):=⟨CH⟩
theorem mJ:QOp X (binaryOp .Mult) (rI CMul λi j=>.int (i*j)):=⟨CI⟩
theorem J8:QOp X (binaryOp .FloorDiv) (rI rW λi j=>.int (i / j)):=⟨CJ⟩
theorem E6:QOp X (binaryOp .Mod) (rI (λ_ j=>0<j) λi j=>.int (i % j)):=⟨CK⟩
theorem wK:QOp X (binaryOp .Pow) (rI rX λi j=>.int (i^j.toNat)):=⟨CM⟩
theorem J0:QOp X (compareOp .Eq) rY:=⟨CQ⟩
theorem Gw{k:Nat}(hr:Room k X.A):QOp X (compareOp .NotEq) dI:=⟨FX hr⟩
theorem mK:QOp X (compareOp .Lt) (R4 λi j=>.bl (decide (i<j))):=⟨CS⟩
theorem U6:QOp X (compareOp .LtE) (R4 λi j=>.bl (decide (i<=j))):=⟨CT⟩
theorem bS:QOp X (compareOp .Gt) (R4 λi j=>.bl (decide (j<i))):=⟨CU⟩
theorem wL:QOp X (compareOp .Is) (λx y H Q=>y=.non/\Q (.bl (decide (x=.non))) H):=⟨CV⟩
theorem Gx:QOp X (compareOp .IsNot) (λx y H Q=>y=.non/\Q (.bl (!decide (x=.non))) H):=⟨CW⟩
theorem Gy(K:Frag)(hu:X.A.units+1<cLine)(hK:X.K=K:=by rfl):QOp X (compareOp .NotIn) (dD K):=⟨FO K hu hK⟩
theorem L8(K:Frag)(hK:X.K=K:=by rfl):QC X (.builtin "len") (aG K):=⟨FS K hK⟩
theorem dO(K:Frag)(hK:X.K=K:=by rfl):QC X (.builtin "isinstance") (dF K):=⟨FU K hK⟩
theorem Gz(K:Frag)(hK:X.K=K:=by rfl):QC X (.type "list") (dH K):=⟨FV K hK⟩
theorem dP(hc:X.calm=true):QC X (.builtin "all") (λxs H Q=>∃(a:Addr)(bs:List Bool),xs=[.ref a]/\H a=some (.lst (bs.map V.bl))/\Q (.bl (bs.all id)) H):=⟨Gp hc⟩
theorem GA(hc:X.calm=true):QC X (.builtin "max") (λxs H Q=>∃i j,xs=[.int i,.int j]/\Q (.int (if j>i then j else i)) H):=⟨Dg hc⟩
theorem W4:QM X "list.append" gB:=⟨Ec⟩
theorem wM:QM X "list.pop" uA:=⟨Ee⟩
theorem wN:QM X "list.extend" lH:=⟨Ed⟩
end
theorem F4{X:Cx}{body:List Stmt}{D:Ends}{σ:L2.St}{H:Hp}{t:TS}(h:QSs X body t)(r:t D σ H):∃t,PSs X body t/\t D σ H:=⟨t,h.h,r⟩
end Rg
namespace Rg
open PySem PySem.W PySem.Spec PyProof.Rows L2
section
variable{prog:Program}{w:World}{A:Around}{E:Value->Shared->Prop}{s:Shared}{env:Env}
theorem wO{o:Expr}{name:Str}{apos pos:Pos}{args:List Expr}{Q:Value->Shared->Prop}
  (hbase:attributeBase o name env (eval o env)=eval o env)
  (hfew:((backTo pos (starEach args env)).all (λx=>!x.1)&&(backToKw pos (keywordEach [] env)).all (λx=>x.1.isSome)
   && decide (args.length+([]:List Keyword).length+(if([]:List Keyword).isEmpty then 0 else 1)<30))=true)
  (hline:(apos.endLine==pos.line)=true)
  (h:wpAny (model prog w) A (eval o env) (λov s₁=>∀pl:Sem Bool,wpAny (model prog w) A (getMethod ov name pl) (λr s₂=>wpAny (model prog w) A (callWith pos r.1 r.2 (backTo pos (starEach args env)) (backToKw pos (keywordEach [] env))) Q E s₂) E s₁) E s):
  wpAny (model prog w) A (eval (.Call (.Attribute o name apos) args [] pos) env) Q E s:=by
 rw[arm_eval_Call,hbase];refine wpAny_bind (wpAny_mono h (λov s₁ h₁=>?_) λ_ _ e=>e);refine wpAny_bind (wpAny_standAt ?_);have hform:methodCallForm (args.length+([]:List Keyword).length) (backTo pos (starEach args env)) (backToKw pos (keywordEach [] env))=true:=hfew;have hpos:methodCallPos true o env apos pos=pure pos:=by unfold methodCallPos;simp[hline]
 unfold methodCall;rw[hform];refine wpAny_bind (wpAny_holding (wpAny_mono (h₁ _) (λr s₂ h₂=>?_) λ_ _ e=>e));exact wpAny_bind (wpAny_of_eq hpos h₂)
end
def Q5(P:Program)(w:World)(K:Frag)(mg:Str->Option Value)(base:Heap)(C:Addr)(m:Str)(k:Nat)(ps:List Str)(sp:Sp):Prop:=
 ∃f fd,FnOk P w K mg base C6 k f fd ps sp/\Binds K fd ps []/\Meth K C m f/\Cls K C
def mL(P:Program)(w:World)(K:Frag)(mg:Str->Option Value)(base:Heap)(x:Str)(C:Addr)(k:Nat)(ps:List Str)(sp:Sp):Prop:=
 ∃f fd,FnOk P w K mg base C6 k f fd ps sp/\Binds K fd ps []/\Mk K C f/\mg x=some (.ref C)
structure ClsF(K:Frag)(C:Addr)(fs:List Str):Prop where
 cls:Cls K C
 no:∀f∈fs,NoAttr K C f
section
variable{X:Cx}{o e:Expr}{es:List Expr}{ta:TE}{t:TA}{m x:Str}{apos pos p:Pos}{C:Addr}{k j:Nat}{ps:List Str}{sp:Sp}
theorem GB(h:Q5 X.prog X.w X.K X.mg X.base C m k ps sp)(hr:Room j X.A)(hkj:k<=j)(he:PE X o ta)(ha:PA X (e::es) t)
  (hbase:attributeBase o m X.env (eval o X.env)=eval o X.env:=by rfl) (hfew:(e::es).length<30:=by decide) (hline:(apos.endLine==pos.line)=true:=by rfl) (hs:M3 (e::es)=true:=by rfl):
  PE X (.Call (.Attribute o m apos) (e::es) [] pos) (fY C m sp [] E0 ta t):=by
 obtain⟨f,fd,F,b,hm,c⟩:=h;intro ζ s σ H Q I h;refine wO hbase ?_ hline (A9 (he ζ s σ H _ I h) λu s1 ⟨x,H1,I1,rx,a,dx,fs,ex,ea,l,q⟩=>?_)
 ·rw[mD hs,Bool.true_and]
  show(true&&decide ((e::es).length+0+0<30))=true;rw[Bool.true_and];exact decide_eq_true hfew
 ·intro pl
  subst ex;obtain rfl:u=Value.ref a:=rx;refine sM I1 ea c hm l ?_;refine callWith_K (first:=[.ref a]) (h₀:=X.base) I.ok.mod.kin hm.kp (A9 (ha pos ζ s1 σ H1 _ I1 q) λus s2 ⟨vs,H2,I2,r,q2⟩=>⟨I2.kIn,?_⟩) (N8 (L6 hs).1) (U3 (L6 hs).2);exact fZ (us:=.ref a::us) (vs:=.ref a::vs) F (hr.mono hkj) b .nil bD I2 (.cons rfl r) q2
theorem GC(h:Q5 X.prog X.w X.K X.mg X.base C m k ps sp)(hr:Room j X.A)(hkj:k<=j)(he:PE X o ta)
  (hbase:attributeBase o m X.env (eval o X.env)=eval o X.env:=by rfl) (hline:(apos.endLine==pos.line)=true:=by rfl):
  PE X (.Call (.Attribute o m apos) [] [] pos) (fY C m sp [] E0 ta Z9):=by
 obtain⟨f,fd,F,b,hm,c⟩:=h;intro ζ s σ H Q I h;refine wO hbase rfl hline (A9 (he ζ s σ H _ I h) λu s1 h9=>?_);obtain⟨x,H1,I1,rx,a,dx,fs,ex,ea,l,q⟩:=h9;intro pl;subst ex;obtain rfl:u=Value.ref a:=rx;refine sM I1 ea c hm l ?_;exact callWith_K0 (first:=[.ref a]) I1.kIn hm.kp (fZ (us:=[.ref a]) (vs:=[.ref a]) F (hr.mono hkj) b .nil bD I1 (.cons rfl .nil) q)
theorem W5(h:Q5 X.prog X.w X.K X.mg X.base C m k ps sp)(hr:Room j X.A)(hkj:k<=j)(he:QE X o ta)(ha:QA X (e::es) t)
  (hbase:attributeBase o m X.env (eval o X.env)=eval o X.env:=by rfl) (hfew:(e::es).length<30:=by decide) (hline:(apos.endLine==pos.line)=true:=by rfl) (hs:M3 (e::es)=true:=by rfl):
  QE X (.Call (.Attribute o m apos) (e::es) [] pos) (fY C m sp [] E0 ta t):=⟨GB h hr hkj he.h ha.h hbase hfew hline hs⟩
theorem GD(h:Q5 X.prog X.w X.K X.mg X.base C m k ps sp)(hr:Room j X.A)(hkj:k<=j)(he:QE X o ta)
  (hbase:attributeBase o m X.env (eval o X.env)=eval o X.env:=by rfl) (hline:(apos.endLine==pos.line)=true:=by rfl):
  QE X (.Call (.Attribute o m apos) [] [] pos) (fY C m sp [] E0 ta Z9):=⟨GC h hr hkj he.h hbase hline⟩
theorem GE(h:mL X.prog X.w X.K X.mg X.base x C k ps sp)(hr:Room (j+1) X.A)(hkj:k<=j)(hg:Gl X x)(ha:QA X (e::es) t)
  (hdb:(x==("__debug__" : Str))=false:=by decide) (hs:M3 (e::es)=true:=by rfl):QE X (.Call (.Name x p) (e::es) [] pos) (sU C sp [] E0 t):=by
 obtain⟨f,fd,F,b,M,m⟩:=h;exact⟨Dy M F (hr.mono (succ_le_succ hkj)) hg m b .nil bD ha.h hdb (N8 (L6 hs).1) (U3 (L6 hs).2)⟩
end
end Rg
namespace Rg
open PySem PySem.W PySem.Spec PyProof.Rows L2
section
variable{X:Cx}{e:Expr}{te:TE}{p p2 pos pos2:Pos}
def GF(K:Frag)(te:TE):TE:=fun σ H Q=>te σ H λx H1=>∃a xs,x=.ref a/\SqL K H1 a xs/\∀p,H1 p=none->Q (.ref p) (upd H1 p (.lst xs.reverse))
theorem wP(hc:X.calm=true)(K:Frag)(hg:Gl X "list")(hm:X.mg "list"=none)(hg2:Gl X "reversed")(hm2:X.mg "reversed"=none)(he:QE X e te)(hs:X5 e=false:=by rfl)(hK:X.K=K:=by rfl):
  QE X (.Call (.Name "list" p) [.Call (.Name "reversed" p2) [e] [] pos2] [] pos) (GF K te):=by
 subst hK;exact⟨ES hc hg hm hg2 hm2 he.h (N8 hs) (N8 rfl)⟩
theorem wQ:∀{ys:List Str}{us:List Value},Vals (ys.map V.str) us->StrsAre us ys
 |[],_,r=>by rw[map_nil]at r;cases r;exact .nil
 |y::ys,_,r=>by
  rw[map_cons]at r;cases r with
  |cons h t=>
   obtain⟨tk,rfl⟩:=(show ∃t,_=Value.str y t from h);exact .cons _ _ (wQ t)
end
end Rg
namespace Rg
open PySem L2
def J1(G H:Hp):Hp:=λa=>if(G a).isSome=true then none else H a
def Dom(G H:Hp):Prop:=∀a,G a≠none->H a≠none
theorem Dom.refl(G:Hp):Dom G G:=λ_ h=>h
theorem Dom.trans{G H I:Hp}(a:Dom G H)(b:Dom H I):Dom G I:=λx h=>b x (a x h)
theorem Dom.of{G H:Hp}(e:Same G H):Dom G H:=λa h=>by
 cases q:G a with
 |none=>exact absurd q h
 |some o=>rw[e a o q];simp
theorem Dom.upd{G H:Hp}{a:Addr}{o:HO}(d:Dom G H):Dom G (L2.upd H a o):=λb h=>by
 by_cases e:b=a
 ·rw[e,A6];simp
 ·rw[B4 e];exact d b h
theorem iB{G H:Hp}{a:Addr}{o:HO}(h:J1 G H a=some o):G a=none/\H a=some o:=by
 unfold J1 at h;cases q:G a with
 |none=>rw[q]at h;exact⟨rfl,h⟩
 |some u=>rw[q]at h;cases h
theorem W6{G H:Hp}{a:Addr}{o:HO}(h:G a=none)(h2:H a=some o):J1 G H a=some o:=by
 unfold J1;rw[h];exact h2
theorem mM{G H:Hp}:Same (J1 G H) H:=λ_ _ h=>(iB h).2
def Ts.snoc(k:Str)(t:Th):Ts->Ts
 |.nil=>.cons k t .nil
 |.cons j u r=>.cons j u (r.snoc k t)
theorem Ts.snoc_keys(k:Str)(t:Th):∀l:Ts,(l.snoc k t).keys=l.keys++[k]
 |.nil=>rfl
 |.cons j _ r=>congrArg (j::·) (Ts.snoc_keys k t r)
theorem RepR.snoc{H:Hp}{k:Str}{t:Th}{y:V}(ht:Rep H t y):∀{l:Ts}{xs:List V},RepR H l xs->RepR H (l.snoc k t) (xs++[y])
 |.nil,xs,h=>by rw[(h:xs=[])];exact⟨y,[],rfl,ht,rfl⟩
 |.cons j u r,xs,h=>by
  obtain⟨z,zs,rfl,h2,h3⟩:=(h:∃y ys,xs=y::ys/\Rep H u y/\RepR H r ys);exact⟨z,zs++[y],rfl,h2,RepR.snoc ht h3⟩
theorem RepD.snoc{H:Hp}{k:Str}{t:Th}{y:V}(ht:Rep H t y):∀{l:Ts}{xs:List (B1×V)},RepD H l xs->RepD H (l.snoc k t) (xs++[(Sum.inr k,y)])
 |.nil,xs,h=>by rw[(h:xs=[])];exact⟨y,[],rfl,ht,rfl⟩
 |.cons j u r,xs,h=>by
  obtain⟨z,zs,rfl,h2,h3⟩:=(h:∃y ys,xs=(Sum.inr j,y)::ys/\Rep H u y/\RepD H r ys);exact⟨z,zs++[(Sum.inr k,y)],rfl,h2,RepD.snoc ht h3⟩
theorem RepD.fresh{H:Hp}{l:Ts}{kvs:List (B1×V)}{k:Str}(h:RepD H l kvs)(hk:¬k∈l.keys):M5 kvs (Sum.inr k)=none:=by
 cases e:M5 kvs (Sum.inr k)with
 |none=>rfl
 |some v=>
  have z:=Ez e;rw[h.keys]at z;obtain⟨j,z1,z2⟩:=mem_map.mp z;cases z2;exact absurd z1 hk
theorem wR{α:Type}{xs:List α}{i:Int}(h0:0<=i)(h1:i<(xs.length:Int)):∃v,I0 xs i=some v/\v∈xs:=by
 obtain⟨k,rfl⟩:∃k:Nat,i=(k:Int):=⟨i.toNat,!1⟩
 have hk:k<xs.length:=by omega
 exact⟨xs[k],L1 (getElem?_eq_getElem hk),getElem_mem hk⟩
end Rg
namespace Rg
open PySem L2
inductive Fm where
 |any
 |num (lo hi:Option Int)
 |wrd (ws:List Str)
 |row (ps:List (Str×Nat×Option Nat))
 |rcd (fs:List (Str×Bool×Str)) (op:Bool)
 |many (k:Fin 3) (ns:List Str)
 |nott (n:Str)
 |look (f w a b:Str)
def wS:Option Int->Dt
 |none=>.non
 |some i=>.int i
def GG:Option Nat->Dt
 |none=>.non
 |some i=>.int i
def GH:Fin 3->Str
 |0=>"all"
 |1=>"some"
 |2=>"one"
def Fm.sort:Fm->Str
 |.any=>"any"
 |.num _ _=>"number"
 |.wrd _=>"word"
 |.row _=>"row"
 |.rcd _ _=>"record"
 |.many k _=>GH k
 |.nott _=>"not"
 |.look _ _ _ _=>"look"
def GI(p:Str×Nat×Option Nat):Dt:=.tup [.str p.1,.int p.2.1,GG p.2.2]
def GJ(p:Str×Bool×Str):Dt:=.tup [.str p.1,.bl p.2.1,.str p.2.2]
def Fm.args:Fm->List Dt
 |.any=>[]
 |.num lo hi=>[wS lo,wS hi]
 |.wrd ws=>[.lst (ws.map .str)]
 |.row ps=>[.lst (ps.map GI)]
 |.rcd fs op=>[.lst (fs.map GJ),.bl op]
 |.many _ ns=>[.lst (ns.map .str)]
 |.nott n=>[.str n]
 |.look f w a b=>[.str f,.str w,.str a,.str b]
def Fm.dt(F:Fm):Dt:=.tup (.str F.sort::F.args)
def Fm.Ok:Fm->Prop
 |.wrd ws=>ws.length<=100
 |.row ps=>ps.length<=100
 |.rcd fs _=>fs.length<=100
 |.many _ ns=>ns.length<=100
 |_=>True
end Rg
namespace Rg
open PySem L2
theorem T2{G G' H:Hp}(d:Dom G G'):Same (J1 G' H) (J1 G H):=λa o h=>by
 obtain⟨h1,h2⟩:=iB h;refine W6 ?_ h2;cases q:G a with
 |none=>rfl
 |some u=>exact absurd h1 (d a (by rw[q];simp))
theorem iC{G H H':Hp}(e:Same H H'):Same (J1 G H) (J1 G H'):=λa o h=>by
 obtain⟨h1,h2⟩:=iB h;exact W6 h1 (e _ _ h2)
theorem dQ{G H:Hp}{l:Addr}{o:HO}(h:G l≠none):J1 G (upd H l o)=J1 G H:=by
 funext b
 unfold J1;by_cases e:b=l
 ·subst e
  cases q:G b with
  |none=>exact absurd q h
  |some u=>rfl
 ·rw[B4 e]
def SameBut(l:Addr)(H H':Hp):Prop:=∀b o,b≠l->H b=some o->H' b=some o
end Rg
namespace Rg
structure Sta where
 want:Option Nat
 stay:Bool
 skip:Bool
end Rg
namespace Rg
open PySem L2 Classical
structure Vw where
 lets:Str->Bool
 word:Option Str
inductive Nd where
 |num (i:Int)
 |wrd (x:Str)
 |row (ms:List Vw)
 |rcd (ms:List (Str×Vw))
end Rg
namespace Rg
open PySem PySem.W PySem.Spec PyProof.Rows L2
def GK:HO->Bool
 |.tup _=>true
 |_=>false
def Fr(A:List Addr)(H H':Hp):Prop:=∀b o,H b=some o->(b∈A->GK o=true)->H' b=some o
section
variable{A B:List Addr}{H H' H'' H0:Hp}{a:Addr}{o o':HO}{xs:List V}
theorem _root_.L2.Same.put(h:Same H H')(hn:H a=none):Same H (upd H' a o):=λb u e=>by
 rw[B4 (E5 e hn)];exact h b u e
theorem wT{b:Addr}(h:upd H a o b=none):b≠a/\H b=none:=by
 by_cases z:b=a
 ·subst z;rw[A6]at h;cases h
 ·rw[B4 z]at h;exact⟨z,h⟩
end
end Rg
namespace Rg
open PySem L2
section
variable{H:Hp}{a b c:Addr}{o u:HO}{r:Option HO}
theorem J9(h:b≠a)(e:H b=r):upd H a o b=r:=by rw[B4 h];exact e
theorem nx(h:upd H a o b=none):b≠a:=(wT h).1
theorem nn(h:upd H a o b=none):H b=none:=(wT h).2
end
end Rg
namespace Rg
open PySem PySem.W PySem.Spec PyProof.Rows L2
theorem wU{g:Str}{v:V}{n k:Nat}{fs:List (Str×V)}(h:fs.length+(k+1)<n):(K6 g v fs).length+k<n:=by
 have:(K6 g v fs).length<=fs.length+1:=by
  induction fs with
  |nil=>exact le_refl _
  |cons q r ih=>
   have ih:=ih (by have:(q::r).length=r.length+1:=rfl;omega);obtain⟨a,b⟩:=q;show(if a=g then(a,v)::r else(a,b)::K6 g v r).length<=r.length+1+1;by_cases z:a=g
   ·rw[if_pos z];exact le_succ _
   ·rw[if_neg z];exact succ_le_succ ih
 omega
theorem GM{g:Str}{v:V}{fs:List (Str×V)}(h:fs.length+1<1000):(K6 g v fs).length<1000:=wU (k:=0) h
theorem E8(n:Nat)(h:n<=100000:=by first|decide|omega):n<sizeLine:=lt_of_le_of_lt h (!3)
end Rg
namespace Rg
open PySem L2
theorem mO{α β:Type}{f:α->β}{l:List α}{i:Nat}{y:β}(h:(l.map f)[i]?=some y):∃x,l[i]?=some x/\y=f x:=by
 rw[getElem?_map]at h;cases e:l[i]? with
 |none=>rw[e]at h;cases h
 |some x=>rw[e]at h;exact⟨x,rfl,(Option.some.inj h).symm⟩
end Rg
namespace Rg
open PySem PySem.W PySem.Spec PyProof.Rows L2
theorem KeysAre.getAt{H:Hp}:∀{xs:List Str}{us:List Value},KeysAre H xs us->∀i,i<us.length->∃p,us.getD i Value.none=Value.ref p/\H p=some (.tup (M9 (xs.getD i Str.empty)))
 |_,_,.nil,i,h=>absurd h (not_lt_zero _)
 |_,_,.cons (a:=x) ⟨p,h1,h2⟩ _,0,_=>⟨p,h1,h2⟩
 |_,_,.cons _ t,i+1,h=>KeysAre.getAt t i (lt_of_succ_lt_succ h)
theorem GN{P:Program}{w:World}{A:Around}{E:Value->Shared->Prop}{s:Shared}{H:Hp}{x y:Str}{p q:Addr}{C:Bool->Shared->Prop}(hok:HOk P w H s.heap)(hp:H p=some (.tup (M9 x)))(hq:H q=some (.tup (M9 y)))(h:C (C3 x y) s):
  wpAny (model P w) A (keyLt' (tuples' true) (.ref p) (.ref q)) C E s:=by
 obtain⟨_,us,ru,⟨ox,ex,cx,nx,dx⟩⟩:=hok p _ hp;obtain⟨_,ws,rw',⟨oy,ey,cy,ny,dy⟩⟩:=hok q _ hq;obtain⟨u1,u2,rfl,⟨t1,rfl⟩,⟨t2,rfl⟩⟩:=Vals.two ru;obtain⟨w1,w2,rfl,⟨t3,rfl⟩,⟨t4,rfl⟩⟩:=Vals.two rw';refine kat_lt ex dx ey dy ?_;refine kat_cons (SeqAt.EqAt.int_int _ _ _ _ P w _ _ ?_);refine kat_go (λe1=>kat_yes ?_) (λe1=>kat_no (oneLt_int ?_))
 ·have z1:((x.length:Nat):Int)=((y.length:Nat):Int):=beq_iff_eq.mp e1
  refine kat_cons (SeqAt.EqAt.str_str _ _ _ _ P w _ _ ?_);refine kat_go (λe2=>kat_yes (kat_nil ?_)) (λe2=>kat_no (kat_one _ _ (lt_str (show W.BoolBack _ (Value.bool _) _ from ?_))))
  ·have z2:x=y:=beq_iff_eq.mp e2
   subst z2;have z3:C3 x x=false:=by unfold C3;rw[vQ];rfl
   rw[z3]at h;exact h
  ·have z2:¬x=y:=beq_eq_false_iff_ne.mp e2
   have z3:C3 x y=decide (x.cps.toList<y.cps.toList):=by
    unfold C3 O5 K7 N7;rw[if_pos z1,if_neg z2];by_cases l:x.cps.toList<y.cps.toList
    ·rw[if_pos l,decide_eq_true l];rfl
    ·rw[if_neg l,decide_eq_false l];rfl
   rw[z3]at h;exact h
 ·have z1:¬((x.length:Nat):Int)=((y.length:Nat):Int):=beq_eq_false_iff_ne.mp e1
  have z3:C3 x y=decide (((x.length:Nat):Int)<((y.length:Nat):Int)):=by
   unfold C3 O5 K7;rw[if_neg z1];by_cases l:((x.length:Nat):Int)<((y.length:Nat):Int)
   ·rw[if_pos l,decide_eq_true l];rfl
   ·rw[if_neg l,decide_eq_false l];rfl
  rw[z3]at h;exact h
section
variable{X:Cx}{ζ:List (Addr×Obj)}{σ:L2.St}{H:Hp}{s:Shared}{D f:Addr}{n k:Nat}{vs:List Value}{xs:List Str}{fd:FuncData}{wd:Str}{sp:Sp}{P:PySem.Fin->Shared->Prop}{E:Value->Shared->Prop}
theorem wV(I:Inv X ζ σ H s)(hD:s.heap.get? D=some (seqObj "list" vs.toArray n))(fD:G6 X ζ H D)(rv:Vals (xs.map V.str) vs)(hx:∀x∈xs,x.length<=1000)(h64:xs.length<64)(hne:∀e s,X.xe e s->False)
  (F:FnOk X.prog X.w X.K X.mg X.base C6 k f fd [wd] sp) (hsp:∀(H':Hp)(vs:List V)(Q:VK)(E:XK),Same H H'->X3 vs H' Q E->sp vs H' Q E) (hr:Room k X.A) (hb:Binds X.K fd [wd] [])
  (h:∀(s':Shared)(H':Hp)(us':List Value)(n':Nat),Inv X ζ σ H' s'->Same H H'->H' D=none->s'.heap.get? D=some (seqObj "list" (toArray us') n')->Vals ((L5 xs).map V.str) us'->P (.done (.ret .none)) s'):
  wpAny (model X.prog X.w) X.A (ksk_tree D (.ref f) false) P E s:=by
 have hlen:xs.length=vs.length:=by rw[←rv.length,length_map]
 have hz:vs.length<=sizeLine:=by rw[←hlen,sizeLine_eq];omega
 unfold ksk_tree;refine wpAny_bind (listItems_at hD rfl ?_);refine wpAny_bind (listUpdate_at hD rfl ?_ (by rw[size_toArray];exact hz) (zero_le _));obtain⟨e1,ho1⟩:∃e1,(s.heap.update D (Obj.mapSeq λ_=>(#[]:Array Value))).get? D=some (seqObj "list" #[] e1):=⟨_,get?_update_seq hD λ_=>#[]⟩
 have I1:Inv X ζ σ H {s with heap:=s.heap.update D (Obj.mapSeq λ_=>(#[]:Array Value)),toks:=s.toks}:=
  aC I fD λc o hc q=>(Heap.get?_update_other _ _ (Ne.symm hc)).trans q
 refine wpAny_bind (seqEpoch_at ho1 rfl ?_);refine wpAny_bind (wpAny_newTuple ?_ (by show vs.length<=_;exact hz));refine wpAny_bind (wpAny_newList ?_ (zero_le _));refine wpAny_holding ?_;generalize hg:s.heap.update D (Obj.mapSeq λ_=>(#[]:Array Value))=g1 at I1 ho1 ⊢;have I2:Inv X ζ σ H {s with heap:=g1.push {cls:=.type "tuple",data:=.seq vs.toArray},toks:=s.toks}:=I1.kept (λb o q=>Heap.get?_push_of_some _ q);generalize hg2:g1.push {cls:=.type "tuple",data:=.seq vs.toArray}=g2 at I2 ⊢;have ho2:g2.get? D=some (seqObj "list" #[] e1):=by rw[←hg2];exact Heap.get?_push_of_some _ ho1
 have I3:Inv X ζ σ H {s with heap:=g2.push {cls:=.type "list",data:=.seq ([]:List Value).toArray},toks:=s.toks}:=I2.kept (λb o q=>Heap.get?_push_of_some _ q);have fK:G6 X ζ H g2.objs.size:=I2.fpOk (le_refl _) (I2.hok.fresh (le_refl _));have hDK:D≠g2.objs.size:=ne_of_lt (Heap.lt_size ho2);have ho3:(g2.push {cls:=.type "list",data:=.seq ([]:List Value).toArray}).get? D=some (seqObj "list" #[] e1):=Heap.get?_push_of_some _ ho2;have hk3:(g2.push {cls:=.type "list",data:=.seq ([]:List Value).toArray}).get? g2.objs.size=some (seqObj "list" (toArray ([]:List Value)) 0):=Heap.get?_push_size _ rfl;have I4:Inv X (ζ++[(D,seqObj "list" #[] e1)]++[(g2.objs.size,seqObj "list" (toArray ([]:List Value)) 0)]) σ H {s with heap:=g2.push {cls:=.type "list",data:=.seq ([]:List Value).toArray},toks:=s.toks}:=
  gK (gK I3 fD ho3 (λv z=>nomatch z)) (lR fK hDK) hk3 (λv z=>nomatch z)
 generalize hkS:g2.objs.size=kS at fK hDK hk3 I4 ⊢;unfold ksk_rest;refine wpAny_bind (wpAny_rule ?_);rw[←Array.forIn_toList];refine wpAny_bind (ksk_fold (λi t=>∃ks c H',Inv X (ζ++[(D,seqObj "list" #[] e1)]++[(kS,seqObj "list" (toArray ks) c)]) σ H' t/\Same H H'/\KeysAre H' (xs.take i) ks) vs.toArray.toList 0 _ ⟨[],0,H,I4,Same.refl H,.nil⟩ ?_ ?_)
 ·rintro i v t hv ⟨ks,c,H',It,sm,kk⟩
  rw[Nat.zero_add]at kk ⊢;have hv':vs[i]?=some v:=by simpa using hv
  have hi:i<xs.length:=by rw[hlen];exact(List.getElem?_eq_some_iff.mp hv').1
  obtain⟨u,hu,ru⟩:=rv.get (x:=.str xs[i]) (i:=i) (by rw[getElem?_map,getElem?_eq_getElem hi];rfl);rw[hv']at hu;cases hu;have hkl:ks.length<64:=by
   have:=Paired.length kk;rw[length_take]at this;omega
  refine wpAny_bind (wpAny_attempt (wpAny_mono (fZ F hr hb .nil bD It (.cons ru .nil) (Q:=λy H2=>∃p,y=.ref p/\H' p=none/\H2=upd H' p (.tup (M9 xs[i])))
   (hsp _ _ _ _ sm ⟨xs[i],rfl,hx _ (getElem_mem hi),λp hp=>⟨p,rfl,hp,rfl⟩⟩)) (λr t1 hq=>?_) λe t1 hq=>(hne e t1 hq).elim))
  obtain⟨y,H2,I5,r5,p,rfl,hp,rfl⟩:=hq;cases r5;have hk5:=cZ I5;have I6:=cY I5;have f6:G6 X (ζ++[(D,seqObj "list" #[] e1)]) (upd H' p (.tup (M9 xs[i]))) kS:=gL (lR fK hDK) hk5.2;refine wpAny_bind (listUpdate_at hk5.1 rfl ?_ (by rw[size_toArray,sizeLine_eq];omega) (le_trans (le_of_eq (Array.size_push ..)) (by rw[size_toArray,sizeLine_eq];omega)));have hup:=get?_update_seq hk5.1 (·.push (Value.ref p));have ea:(toArray ks).push (Value.ref p)=toArray (ks++[Value.ref p]):=by simp
  rw[ea]at hup;have I7:=gK (aC (h':=t1.heap.update kS (Obj.mapSeq (·.push (Value.ref p)))) (t':=t1.toks) I6 f6 λc' o hc q=>(Heap.get?_update_other _ _ (Ne.symm hc)).trans q) f6 hup (λv z=>nomatch z);have sm2:Same H' (upd H' p (.tup (M9 xs[i]))):=B2 hp _;refine wpAny_pure ⟨rfl,_,_,_,I7,sm.trans sm2,?_⟩;have et:xs.take (i+1)=xs.take i++[xs[i]]:=take_succ_eq_append_getElem hi;rw[et];exact KeysAre.snoc (kk.mono sm2) ⟨p,rfl,A6⟩
 ·rintro t ⟨ks,c,H',It,sm,kk⟩
  rw[Nat.zero_add]at kk;have efull:xs.take vs.toArray.toList.length=xs:=take_of_length_le (by simp[hlen]);rw[efull]at kk;have hkl:ks.length=vs.length:=by rw[←hlen];exact(Paired.length kk).symm
  have hk5:=cZ It;have hD5:=cZ (cY It);have fin:∀(st:SortSt)(p:List Nat),p=U2 xs->(arrOf st).map (·.2)=toArray (p.map λi=>vs.getD i Value.none)->failedOf st=none->wpAny (model X.prog X.w) X.A (ksk_tail D false e1 (.ref kS) st) P E t:=by
   intro st p hps hst hf;have hp:p.Perm (List.range vs.length):=by rw[hps,←hlen];exact vO xs
   unfold ksk_tail
   try dsimp only
   rw[hst];refine wpAny_bind (listUpdate_at hk5.1 rfl ?_ (by rw[size_toArray,sizeLine_eq];omega) (zero_le _));have f6:G6 X (ζ++[(D,seqObj "list" #[] e1)]) H' kS:=gL (lR fK hDK) hk5.2;have I7:=aC (h':=t.heap.update kS (Obj.mapSeq λ_=>(#[]:Array Value))) (t':=t.toks) (cY It) f6 λc' o hc q=>(Heap.get?_update_other _ _ (Ne.symm hc)).trans q
   have hD7:=cZ I7;refine wpAny_bind (wpAny_letGo ?_);refine wpAny_bind (seqEpoch_at hD7.1 rfl ?_);have hpl:(toArray (p.map λi=>vs.getD i Value.none)).size=vs.length:=by rw[size_toArray,length_map,hp.length_eq,length_range]
   have hif:(if false=true then(toArray (p.map λi=>vs.getD i Value.none)).reverse else toArray (p.map λi=>vs.getD i Value.none))=toArray (p.map λi=>vs.getD i Value.none):=by simp
   rw[hif];refine wpAny_bind (listUpdate_at hD7.1 rfl ?_ (zero_le _) (by rw[hpl];omega));rw[hf];simp only[bne_self_eq_false,Bool.false_eq_true,if_false];have f8:G6 X ζ H' D:=gL fD hD5.2;have I8:=aC (h':=(t.heap.update kS (Obj.mapSeq λ_=>(#[]:Array Value))).update D (Obj.mapSeq λ_=>toArray (p.map λi=>vs.getD i Value.none))) (t':=t.toks) (cY I7) f8 λc' o hc q=>(Heap.get?_update_other _ _ (Ne.symm hc)).trans q
   have hup:=get?_update_seq hD7.1 (λ_=>toArray (p.map λi=>vs.getD i Value.none));refine wpAny_pure (h _ H' (p.map λi=>vs.getD i Value.none) _ I8 sm hD5.2 hup ?_);have hlt:∀i∈p,i<vs.length:=λi hi=>mem_range.mp (hp.mem_iff.mp hi)
   have es:L5 xs=p.map λi=>xs.getD i Str.empty:=by rw[hps];rfl
   rw[es];clear hp hst hpl hif hup I8 hps es
   induction p with
   |nil=>exact .nil
   |cons i r ih=>
    have hi:=hlt i mem_cons_self;have hi':i<xs.length:=by rw[hlen];exact hi
    obtain⟨u,hu,ru⟩:=rv.get (x:=.str xs[i]) (i:=i) (by rw[getElem?_map,getElem?_eq_getElem hi'];rfl);refine .cons ?_ (ih λj hj=>hlt j (mem_cons_of_mem _ hj));have e2:vs.getD i Value.none=u:=by rw[getD_eq_getElem?_getD,hu];rfl
    have e3:xs.getD i Str.empty=xs[i]:=by rw[getD_eq_getElem?_getD,getElem?_eq_getElem hi'];rfl
    show L2.RelV (V.str (xs.getD i Str.empty)) (vs.getD i Value.none);rw[e2,e3];exact ru
  refine wpAny_bind (listItems_at hk5.1 rfl ?_);unfold ksk_end
  try dsimp only
  by_cases h2:vs.length<2
  ·have hs2:vs.toArray.size<2:=by rw[size_toArray];exact h2
   simp only[hs2,if_true,Bool.false_eq_true,if_false];refine wpAny_bind (wpAny_pure ?_);refine wpAny_bind (wpAny_pure ?_);refine fin _ (List.range vs.length) (by unfold U2;rw[if_pos (!1),hlen]) ?_ rfl;show(((toArray ks).zip vs.toArray).map (·.2))=_;apply Array.toList_inj.mp;rw[Array.toList_map,ksk_zip,map_snd_zip (by rw[hkl];exact le_refl _)];apply ext_getElem
   ·simp
   ·intro i q1 q2
    simp[getD_eq_getElem?_getD,getElem?_eq_getElem q1]
  ·have hs2:¬vs.toArray.size<2:=by rw[size_toArray];exact h2
   simp only[hs2,if_false,Bool.false_eq_true];refine wpAny_bind (EJ It.hok kk (!1) ?_);refine wpAny_bind (wpAny_mono (kat_run (ks:=ks) (vs:=vs) (κ:=tuples' true) (Q:=λst' s'=>s'=t/\∃p:Array Nat,p.toList=U2 xs/\arrOf st'=p.map (kas_item (ks.toArray.zip vs.toArray))/\failedOf st'=none)
    (G:=λp s'=>s'=t/\p.toList=U2 xs) hkl (!1) (!1) (λp st' s' _ a2 a3 a4=>⟨a4.1,p,a4.2,a2,a3⟩) (vN (lt:=λi j=>C3 (xs.getD i Str.empty) (xs.getD j Str.empty)) (λi j hi hj C hC=>?_) (uU (!1)) ⟨rfl,by unfold U2;rw[if_neg (!1),hlen]⟩)) ?_ λ_ _ x=>x)
   ·obtain⟨p1,e1',q1⟩:=kk.getAt i (by rw[hkl];exact hi)
    obtain⟨p2,e2',q2⟩:=kk.getAt j (by rw[hkl];exact hj);show wpAny _ _ (keyLt' _ (ks.getD i Value.none) (ks.getD j Value.none)) _ _ _;rw[e1',e2'];exact GN It.hok q1 q2 hC
   ·rintro ⟨⟨⟩,st'⟩ s' ⟨rfl,p,hp,har,hf⟩
    exact fin st' p.toList hp (kat_snds hkl har) hf
end
def GO(sp:Sp)(f:Addr):List V->List V->Hp->VK->Prop:=λvs zs H Q=>∃a kvs,vs=[.ref a]/\zs=[.ref f]/\H a=some (.dK kvs)/\(∀(H':Hp)(vs:List V)(Q:VK)(E:XK),Same H H'->X3 vs H' Q E->sp vs H' Q E)/\kvs.length<64/\(∃xs:List Str,kvs.map (·.1)=xs.map Sum.inr/\(∀x∈xs,x.length<=1000)/\
 ∀(q:Addr)(H':Hp),Same H H'->H' q=some (.lst ((L5 xs).map V.str))->Q (.ref q) H')
section
variable{X:Cx}{f:Addr}{k:Nat}{fd:FuncData}{wd:Str}{sp:Sp}
theorem GP(hc:X.calm=true)(hne:∀e s,X.xe e s->False)(F:FnOk X.prog X.w X.K X.mg X.base C6 k f fd [wd] sp)(hr:Room (k+1+1) X.A)(hb:Binds X.K fd [wd] []):gN X "sorted" [Str.ofString "key"] (GO sp f):=by
 intro ζ s σ H vs zs us ws Q I rv rz h;obtain⟨a,kvs,rfl,rfl,ha,hsp,h64,xs,hkeys,hx,q⟩:=h;obtain⟨u,rfl,ru⟩:=K9 rv;obtain⟨u2,rfl,ru2⟩:=K9 rz;cases ru;cases ru2;obtain⟨zl,hd,dvs,rel,dd⟩:=aB I.hok ha;obtain⟨ep,dat⟩:=dd.dictAt;have hlen:=rel.length;have hkv:kvs.map (·.1)=dvs.map (·.1):=rel.keys;show wpAny _ _ (call (.builtin "sorted") [.ref a] [(Str.ofString "key",.ref f)]) _ _ s;refine call_function_entry_kw kind_sorted plain_sorted entry_sorted (ksk_s1 _ _) ?_;unfold Builtin.«sorted»;refine wpAny_bind (m:=checkCount "sorted" 1 1 _) (wpAny_pure ?_);refine wpAny_bind (kdu_collect (kdl_dict hd) (show X.A.in1.handled=none from I.ok.hd hc) dat (by rw[←hlen];exact zl) λh1 tk acc hk items=>?_);have I1:Inv X ζ σ H {s with heap:=h1,toks:=tk}:=I.kept hk;have hacc:acc.toList.length=kvs.length:=by rw[Array.length_toList,items.1,hlen]
 have hxl:xs.length=kvs.length:=by
  have z:=congrArg length hkeys;rw[length_map,length_map]at z;exact z.symm
 have rvs:Vals (xs.map V.str) acc.toList:=by
  have key:∀(l:List Str)(m:List Value),l.length=m.length->(∀(j:Nat)(x:Str)(v:Value),l[j]?=some x->m[j]?=some v->∃t,v=Value.str x t)->Vals (l.map V.str) m:=by
   intro l
   induction l with
   |nil=>intro m hm _;cases m with
    |nil=>exact .nil
    |cons _ _=>simp at hm
   |cons x l ih=>intro m hm hj;cases m with
    |nil=>simp at hm
    |cons v m=>exact .cons (hj 0 x v rfl rfl) (ih m (by simpa using hm) λj y w h1 h2=>hj (j+1) y w (by simpa using h1) (by simpa using h2))
  refine key xs acc.toList (!1) λj x v q1 q2=>?_
  obtain⟨k',y,e1,e2⟩:=items.2 j v (by rw[←Array.getElem?_toList];exact q2);have e3:(dvs.map (·.1))[j]?=some k':=by rw[getElem?_map,e1];rfl
  rw[←hkv,hkeys,getElem?_map,q1]at e3;have e4:Sum.inr x=k':=Option.some.inj e3;subst e4;exact Value.isStrOf_shape (x:=x) (v:=v) e2
 refine wpAny_bind (wpAny_newList ?_ (by rw[hacc];exact zl));have I2:Inv X ζ σ H {s with heap:=h1.push {cls:=.type "list",data:=.seq acc.toList.toArray},toks:=tk}:=I1.kept λb o z=>Heap.get?_push_of_some _ z
 have fD:G6 X ζ H h1.objs.size:=I1.fpOk (le_refl _) (I1.hok.fresh (le_refl _));have hD:(h1.push {cls:=.type "list",data:=.seq acc.toList.toArray}).get? h1.objs.size=some (seqObj "list" (toArray acc.toList) 0):=Heap.get?_push_size _ rfl;refine wpAny_bind (wpAny_holding (wpAny_call_entry_kw slot_list_sort ⟨_,hD,rfl⟩ entry_list_sort ?body (ksk_l1 _ _)))
 case body=>
  show wpAny (model X.prog X.w) X.A.in1.in1 (Builtin.«list.sort» ⟨[.ref h1.objs.size],[(Str.ofString "key",.ref f)]⟩) _ _ _;rw[ksk_t1];refine wV (X:=bH X) (uV I2) hD fD rvs hx (!1) hne F hsp hr.in1.in1 hb λs' H' us' n' I' sm hn' hD' rv'=>?_
  refine⟨_,rfl,wpAny_pure ⟨_,rfl,?_⟩⟩;have fD':G6 X ζ H' h1.objs.size:=⟨hn',fD.2⟩;refine⟨.ref h1.objs.size,upd H' h1.objs.size (.lst ((L5 xs).map V.str)),gM (uW I') fD' I1.sz ?_,rfl,q _ _ (sm.trans (B2 hn' _)) A6⟩;refine⟨by rw[length_map,(gT xs).length_eq,hxl];exact zl,us',n',rv',hD'⟩
end
end Rg
namespace Rg
open PySem L2
abbrev PartsN(H0 H:Hp):List V->List (Str×Th)->Prop:=Paired λv c=>∃p y,v=V.ref p/\H p=some (.tup [.str c.1,y])/\Rep H0 c.2 y
theorem PartsN.mono{H0 H H':Hp}(e:TupsStay H H'){vs:List V}{cs:List (Str×Th)}(h:PartsN H0 H vs cs):PartsN H0 H' vs cs:=Paired.mapP h λ_ _ ⟨p,y,h1,h2,h3⟩=>⟨p,y,h1,e _ _ h2,h3⟩
theorem PartsN.app{H0 H:Hp}:∀{vs ws:List V}{cs ds:List (Str×Th)},PartsN H0 H vs cs->PartsN H0 H ws ds->PartsN H0 H (vs++ws) (cs++ds)
 |_,_,_,_,.nil,h=>h
 |_,_,_,_,.cons r t,h=>.cons r (PartsN.app t h)
theorem PartsN.rev{H0 H:Hp}{vs:List V}{cs:List (Str×Th)}(h:PartsN H0 H vs cs):PartsN H0 H vs.reverse cs.reverse:=by
 induction h with
 |nil=>exact .nil
 |cons r _ ih=>
  rw[reverse_cons,reverse_cons];exact PartsN.app ih (.cons r .nil)
theorem PartsN.len{H0 H:Hp}{vs:List V}{cs:List (Str×Th)}(h:PartsN H0 H vs cs):vs.length=cs.length:=Paired.length h
theorem mP:∀l:Ts,l.toL.map (·.2)=l.ths
 |.nil=>rfl
 |.cons k t r=>by show t::r.toL.map (·.2)=t::r.ths;rw[mP r]
theorem aI{H H':Hp}{a:Addr}{o:HO}(e:Same H H')(h:H a=none):Same H (upd H' a o):=λb u q=>by
 rw[B4 (E5 q h)];exact e b u q
theorem mQ{H:Hp}{a b:Addr}{o:HO}(h:upd H a o b=none):b≠a/\H b=none:=by
 by_cases e:b=a
 ·rw[e,A6]at h
  cases h
 ·rw[B4 e]at h
  exact⟨e,h⟩
end Rg
namespace Rg
open PySem L2
section
variable(K:Frag)
theorem GQ:kitOne K (.type "str") (.type "int")=some false:=by kernel_rfl
theorem GR:kitOne K (.type "list") (.type "int")=some false:=by kernel_rfl
theorem GS:kitOne K (.type "dict") (.type "int")=some false:=by kernel_rfl
theorem GT:kitOne K (.type "int") (.type "str")=some false:=by kernel_rfl
theorem GU:kitOne K (.type "str") (.type "str")=some true:=by kernel_rfl
theorem GV:kitOne K (.type "list") (.type "str")=some false:=by kernel_rfl
theorem GW:kitOne K (.type "dict") (.type "str")=some false:=by kernel_rfl
end
def GX:Th->Bool
 |.num _=>true
 |_=>false
def GY:Th->Bool
 |.word _=>true
 |_=>false
theorem mS(K:Frag):∀t:Th,kitOne K (.type t.ty) (.type "int")=some (GX t)
 |.num _=>Fi K
 |.word _=>GQ K
 |.row _=>GR K
 |.dic _=>GS K
theorem GZ(K:Frag):∀t:Th,kitOne K (.type t.ty) (.type "str")=some (GY t)
 |.num _=>GT K
 |.word _=>GU K
 |.row _=>GV K
 |.dic _=>GW K
theorem mU{α β:Type}{F:α->β->Prop}:∀{xs:List α}{ys:List β},Paired F xs ys->∀(i:Nat)(x:α),xs[i]?=some x->∃y,ys[i]?=some y/\F x y
 |_,_,.nil,i,x,h=>by simp at h
 |_,_,.cons (b:=b) r t,0,x,h=>by
  cases h;exact⟨b,rfl,r⟩
 |_,_,.cons r t,i+1,x,h=>by
  obtain⟨y,h1,h2⟩:=mU t i x (by simpa using h);exact⟨y,by simpa using h1,h2⟩
end Rg
namespace Rg
open PySem PySem.W PySem.Spec PyProof.Rows L2
section
variable{X:Cx}
def Ha(K:Frag):R2:=λx y H Q=>∃a b xs,x=.ref a/\y=.ref b/\SqL K H a xs/\H b=some (.lst [])/\Q (.bl xs.isEmpty) H
theorem Hb(K:Frag)(hu:X.A.units+1<cLine)(hK:X.K=K:=by rfl):QOp X (compareOp .Eq) (Ha K):=⟨by
 subst hK;intro ζ s σ H x y v u Q I rx ry h;obtain⟨a,b,xs,rfl,rfl,ha,hb,q⟩:=h;cases rx;cases ry;obtain⟨its,rvs,pl,hz⟩:=I.list ha;obtain⟨its2,rvs2,pl2,hz2⟩:=I.list (SqL.of (K:=X.K) hb);cases rvs2;cases xs with
 |nil=>
  cases rvs;exact PySem.SeqAt.eq_listAt (e:=λ_=>true) pl.isList pl2.isList rfl (!1) (λj h1 _=>absurd h1 (!2)) ⟨.bl true,H,I,rfl,q⟩
 |cons x xs=>
  cases rvs with
  |cons r rs=>exact PySem.SeqAt.eq_list_lengthsAt pl.isList pl2.isList (!2) (!1) ⟨.bl false,H,I,rfl,q⟩⟩
def Hc(K:Frag):V->List V->Hp->VK->Prop:=λx vs H Q=>∃(D1:Str)(a:Addr)(ys:List Str),x=.str D1/\vs=[.ref a]/\SqL K H a (ys.map V.str)/\D1.length<=16/\(ys.map (·.length)).sum+ys.length<=1048576/\Q (.str (PySem.Txt.join D1 ys)) H
theorem dS(K:Frag)(hK:X.K=K:=by rfl):QM X "str.join" (Hc K):=⟨by
 subst hK;intro ζ s σ H x vs v us Q I rx rv h;obtain⟨D1,a,ys,rfl,rfl,ha,h1,h2,q⟩:=h;obtain⟨t,rfl⟩:=rx;obtain⟨u,rfl,ru⟩:=K9 rv;cases ru;obtain⟨its,rvs,pl,hz⟩:=I.list ha;exact join_listW pl.isList (wQ rvs) h1 h2 λt' k=>⟨.str (PySem.Txt.join D1 ys),H,I.tok _,⟨_,rfl⟩,q⟩⟩
end
theorem Hd(x:Str)(ws:List Str):bB (.str x) (ws.map V.str)=decide (x∈ws):=by
 unfold bB;rw[List.any_map,Bool.eq_iff_iff,any_eq_true,decide_eq_true_iff];constructor
 ·rintro ⟨w,hw,e⟩
  have:w=x:=by simpa [U1]using e
  rw[←this];exact hw
 ·intro h
  exact⟨x,h,by simp[U1]⟩
end Rg
namespace Rg
open PySem PySem.W PySem.Spec PyProof.Rows L2 Builtin.Str
def Asc(z:Str):Prop:=z.cps.all (· < 128)=true
def Its(z:Str):It:=⟨λi _=>i<z.cps.size,λi H x H'=>H'=H/\∃c,z.cps[i]?=some c/\x=.str ⟨#[c]⟩,λi _=>i=z.cps.size⟩
theorem He{P:Program}{w:World}{K:Frag}{tg:Expr}(it:Addr)(z:Str)(t:Tok):Turn P w K tg (Its z) [it] it (λi h=>h.IsStrIter it "str_ascii_iterator" z t i) where
 mem:=by simp
 obj:=λi h st b hb=>by
  have e:b=it:=by simpa using hb
  subst e;obtain⟨o,e,c,d⟩:=st;exact⟨o,e,λv y=>by rw[d]at y;cases y⟩
 keep:=λi h h' st k=>by
  obtain⟨o,e,c,d⟩:=st;exact⟨o,k it (!2) o e,c,d⟩
 item:=by
  intro X hP hw hK hc i ζ s σ H E I hf st hg;subst hP hw hK;have hi:i<z.cps.size:=hg;obtain⟨f0,f1,f2,f3,f4,f5⟩:=hf it (!2);refine wpAny_pyNext_ascii_item st (c:=z.cps[i]) (by simp[hi]) λh' st' sb=>?_
  have I1:Inv X ζ σ H {s with heap:=h',toks:=s.toks+1}:=I.turned (t':=s.toks+1) (λb o hb e=>(sb.2 b hb).trans e) f0 f1 f3 f4 f5;obtain⟨o,e,c,d⟩:=id st';exact⟨_,rfl,kE (s:={s with heap:=h',toks:=s.toks+1}) e c d (!3) ⟨.str ⟨#[z.cps[i]]⟩,H,I1,⟨_,rfl⟩,⟨rfl,_,by simp[hi],rfl⟩,st',λb hb=>(hf b hb).1⟩⟩
 done:=by
  intro X hP hw hK hc i ζ s σ H E I hf st hg;subst hP hw hK;have hi:i=z.cps.size:=hg;obtain⟨f0,f1,f2,f3,f4,f5⟩:=hf it (!2);exact wpAny_pyNext_ascii_end (I.ok.hd hc) st (by simp[hi]) λh' eb=>⟨rfl,I.turned (t':=s.toks) (λb o hb e=>eb b o hb e) f0 f1 f3 f4 f5⟩
 self:=λ_ _ _ _ _ st h=>wpAny_pyIter_striter_ascii st h
section
variable{X:Cx}{tg l:Expr}{tl:TE}
def wW(tl:TE):TI:=fun σ H R=>tl σ H λx H1=>∃z,x=.str z/\Asc z/\R (Its z) H1
theorem Hf(hl:PE X l tl):PI X tg l (wW tl):=by
 intro ζ s σ H R I h;refine A9 (hl ζ s σ H _ I h) λv s1 h1=>?_
 obtain⟨x,H1,I1,rx,z,rfl,hz,q⟩:=h1;obtain⟨t,rfl⟩:=rx;refine wpAny_pyIter_ascii hz ?_;have I2:Inv X ζ σ H1 {s1 with heap:=s1.heap.push {cls:=.type "str_ascii_iterator",data:=.fields #[.str z t,.int 0 0]} }:=I1.kept (t':=s1.toks) λb o y=>Heap.get?_push_of_some _ y
 refine⟨s1.heap.objs.size,[s1.heap.objs.size],_,Its z,H1,rfl,I2,He _ z t,⟨_,Heap.get?_push_size _ rfl,rfl,rfl⟩,λc hc=>?_,q⟩;have e:c=s1.heap.objs.size:=by simpa using hc
 subst e;exact I1.fpOk (le_refl _) (I1.hok.fresh (le_refl _))
theorem bU(K:Frag)(hl:QE X l tl):QI X tg l (wW tl):=⟨Hf hl.h⟩
theorem bV{z:Str}:Walk (Its z) (λ_=>True) z.cps.size (λi v H H'=>H'=H/\∃c,z.cps[i]?=some c/\v=.str ⟨#[c]⟩) where
 go:=λi H q hi=>hi
 stop:=λi H q hi=>hi
 yld:=λi H v H' q hi y=>y
theorem Q6:QOp X (compareOp .In) (λy x H Q=>∃a b:Str,y=.str b/\x=.str a/\Q (.bl (Txt.contains a b)) H):=⟨by
 intro ζ s σ H y x v u Q I ry rx h;obtain⟨a,b,rfl,rfl,q⟩:=h;obtain⟨t,rfl⟩:=ry;obtain⟨t',rfl⟩:=rx;exact P.in_str ⟨.bl _,H,I,rfl,q⟩⟩
theorem Y1:QOp X (binaryOp .Mult) (λx y H Q=>∃(z:Str)(n:Int),x=.str z/\y=.int n/\MulOk z n/\Q (.str (Txt.mul z n)) H):=⟨by
 intro ζ s σ H x y v u Q I rx ry h;obtain⟨z,n,rfl,rfl,ok,q⟩:=h;obtain⟨t,rfl⟩:=rx;obtain⟨t',rfl⟩:=ry;exact SB.mul ok λt' k=>⟨.str _,H,I.tok _,⟨_,rfl⟩,q⟩⟩
theorem Hg:QM X "str.startswith" (λx vs H Q=>∃z y:Str,x=.str z/\vs=[.str y]/\Q (.bl (Txt.startswith z y)) H):=⟨by
 intro ζ s σ H x vs v us Q I rx rv h;obtain⟨z,y,rfl,rfl,q⟩:=h;obtain⟨t,rfl⟩:=rx;obtain⟨u,rfl,ru⟩:=K9 rv;obtain⟨t',rfl⟩:=ru;exact SC.startswith ⟨.bl _,H,I,rfl,q⟩⟩
theorem mV:QC X (.type "str") (λxs H Q=>∃i:Int,xs=[.int i]/\i.natAbs.log2<1920/\Q (.str (toString i)) H):=⟨by
 intro ζ s σ H xs us Q I r h;obtain⟨i,rfl,hi,q⟩:=h;obtain⟨u,rfl,t,rfl⟩:=K9 r;exact P.str_of_int hi ⟨.str _,H,I.tok _,⟨_,rfl⟩,q⟩⟩
theorem iD:QC X (.type "int") (λxs H Q=>((∃i,xs=[.int i]/\Q (.int i) H)∨∃k,xs=[.bl k]/\Q (.int (if k then 1 else 0)) H)∨∃(x:Str)(n:Int),xs=[.str x]/\PySem.intText? x=some n/\x.length<=640/\Q (.int n) H):=⟨by
 intro ζ s σ H xs us Q I r h;rcases h with h|⟨x,n,rfl,hn,hl,q⟩
 ·exact Dh ζ s σ H xs us Q I r h
 ·obtain⟨u,rfl,t,rfl⟩:=K9 r
  exact KIN.call_text hn hl ⟨.int n,H,I.tok _,⟨_,rfl⟩,q⟩⟩
theorem Hh:SlR X (λx lo hi H Q=>∃z:Str,x=.str z/\z.length<=sizeLine/\Q (.str (Txt.slice z lo hi)) H):=by
 intro ζ s σ H x v vl vu lo hi sl Q I rx hs pl pu h;obtain⟨z,rfl,hz,q⟩:=h;obtain⟨t,rfl⟩:=rx;refine⟨"str",_,F.slot_str_getitem.lookup,typeIs_str _ _ _,?_⟩;cases pl<;>cases pu
 ·exact wpAny_getItem_str_slice (l:=none) (u:=none) (st:=none) hs rfl (post_val_or_str ⟨le_trans (Txt.slice_le z _ _) hz,λt' k=>⟨.str _,H,I.tok _,⟨_,rfl⟩,q⟩⟩)
 ·exact wpAny_getItem_str_slice (l:=none) (u:=some (_,_)) (st:=none) hs rfl (post_val_or_str ⟨le_trans (Txt.slice_le z _ _) hz,λt' k=>⟨.str _,H,I.tok _,⟨_,rfl⟩,q⟩⟩)
 ·exact wpAny_getItem_str_slice (l:=some (_,_)) (u:=none) (st:=none) hs rfl (post_val_or_str ⟨le_trans (Txt.slice_le z _ _) hz,λt' k=>⟨.str _,H,I.tok _,⟨_,rfl⟩,q⟩⟩)
 ·exact wpAny_getItem_str_slice (l:=some (_,_)) (u:=some (_,_)) (st:=none) hs rfl (post_val_or_str ⟨le_trans (Txt.slice_le z _ _) hz,λt' k=>⟨.str _,H,I.tok _,⟨_,rfl⟩,q⟩⟩)
theorem O7{e:Expr}{lo hi:Option Expr}{te:TE}{tl th:TO}{p2 pos:Pos}(he:QE X e te)(hl:QO X lo tl)(hu:QO X hi th):QE X (.Subscript e (.Slice lo hi none p2) pos) (kZ (λx lo hi H Q=>∃z:Str,x=.str z/\z.length<=sizeLine/\Q (.str (Txt.slice z lo hi)) H) te tl th):=⟨tK Hh he.h hl.h hu.h⟩
theorem wX:∀l:List (Str×Tok),Vals ((l.map (·.1)).map V.str) (strValues l)
 |[]=>.nil
 |(_,_)::r=>.cons ⟨_,rfl⟩ (wX r)
theorem mW:QM X "str.split" (λx vs H Q=>∃z y:Str,x=.str z/\vs=[.str y]/\(y.length==0)=false/\z.length<=sizeLine/\(Txt.split z y).length<=sizeLine/\∀p,H p=none->Q (.ref p) (upd H p (.lst ((Txt.split z y).map V.str)))):=⟨by
 intro ζ s σ H x vs v us Q I rx rv h;obtain⟨z,y,rfl,rfl,hy,hz,hn,q⟩:=h;obtain⟨t,rfl⟩:=rx;obtain⟨u,rfl,ru⟩:=K9 rv;obtain⟨t',rfl⟩:=ru;have fin:∀(l:List (Str×Tok))(k:Nat),l.map (·.1)=Txt.split z y->EP X ζ σ Q (.ref s.heap.objs.size) {s with toks:=k,heap:=s.heap.push {cls:=.type "list",data:=.seq (strValues l).toArray} }:=λl k e=>by
  have hv:=wX l;rw[e]at hv;exact⟨.ref s.heap.objs.size,_,I.laid (t':=k) (o:=.lst ((Txt.split z y).map V.str)) (λb ob q=>Heap.get?_push_of_some _ q) (le_refl _) ⟨by rw[length_map];exact hn,_,0,hv,Heap.get?_push_size _ rfl⟩,rfl,q _ (I.hok.fresh (le_refl _))⟩
 cases h1:(decide (z.length<y.length)||decide (strKind z<strKind y))
 ·cases hf:(occurrences z y 0 z.length (z.length+1)).isEmpty
  ·have e:Txt.split z y=partsBetween z (occurrences z y 0 z.length (z.length+1)) y.length:=(if_neg (ne_true_of_eq_false h1)).trans (if_neg (ne_true_of_eq_false hf))
   refine call_meets F.slot_str_split (typeIs_str _ _ _) F.entry_str_split (F.args_str_split_2 _ _) (meets_str_split_sep z y t t' h1 hy hf hz (by rw[←e];exact hn)) ?_;show wants _ _ _ {s with toks:=_,heap:=s.heap.push {cls:=.type "list",data:=.seq (strsFrom s.toks (partsBetween z (occurrences z y 0 z.length (z.length+1)) y.length)).toArray} };rw[strsFrom_eq];exact fin (numbered s.toks _) _ ((numbered_texts _ _).trans e.symm)
  ·exact call_meets F.slot_str_split (typeIs_str _ _ _) F.entry_str_split (F.args_str_split_2 _ _) (meets_str_split_not_found z y t t' h1 hy hf) (fin [(z,t)] s.toks ((if_neg (ne_true_of_eq_false h1)).trans (if_pos hf)).symm)
 ·exact call_meets F.slot_str_split (typeIs_str _ _ _) F.entry_str_split (F.args_str_split_2 _ _) (meets_str_split_cannot_occur z y t t' h1) (fin [(z,t)] s.toks (if_pos h1).symm)⟩
theorem dU{x z:Str}{pos:Pos}(hg:Gl X x)(hm:∃t,X.mg x=some (.str z t))(hd:(x==("__debug__" : Str))=false:=by decide):QE X (.Name x pos) (tC (.str z)):=by
 obtain⟨t,h⟩:=hm;exact bM hg h ⟨_,rfl⟩ hd
theorem dW{x:Str}{i:Int}{pos:Pos}(hg:Gl X x)(hm:∃t,X.mg x=some (.int i t))(hd:(x==("__debug__" : Str))=false:=by decide):QE X (.Name x pos) (tC (.int i)):=by
 obtain⟨t,h⟩:=hm;exact bM hg h ⟨_,rfl⟩ hd
end
def Y2(c:Nat):Bool:=decide (97<=c)&&decide (c<=122)
def E1(c:Nat):Bool:=decide (48<=c)&&decide (c<=57)
theorem wY{c:Nat}(h:c<128):Txt.contains "abcdefghijklmnopqrstuvwxyz" ⟨#[c]⟩=Y2 c:=by
 have:∀c<128,Txt.contains "abcdefghijklmnopqrstuvwxyz" ⟨#[c]⟩=Y2 c:=by decide +kernel
 exact this c h
theorem mX{c:Nat}(h:c<128):Txt.contains "0123456789" ⟨#[c]⟩=E1 c:=by
 have:∀c<128,Txt.contains "0123456789" ⟨#[c]⟩=E1 c:=by decide +kernel
 exact this c h
theorem Asc.at{z:Str}(h:Asc z){i c:Nat}(e:z.cps[i]?=some c):c<128:=by
 have h':z.cps.all (· < 128)=true:=h;rw[Array.all_eq_true]at h';obtain⟨hi,rfl⟩:=Array.getElem?_eq_some_iff.mp e;exact of_decide_eq_true (h' i hi)
theorem N9{K:Frag}{H:Hp}{z:Str}{Q:VK}(hz:z.length<=sizeLine)(q:Q (.int (z.length:Nat)) H):aG K [.str z] H Q:=by
 unfold aG;exact .inl ⟨_,_,rfl,⟨hz,rfl⟩,q⟩
end Rg
namespace Rg
open PySem PySem.W PySem.Spec PyProof.Rows L2 PySem.NumText Builtin.Str
def nT(n:Int):Str:=Str.ofString (toString n)
def dg(m:Nat):List Nat:=(Nat.toDigits 10 m).map Char.toNat
theorem P5(m:Nat):(nT (m:Nat)).cps.toList=dg m:=KIN.signs_num m
theorem bW(m:Nat):(nT (-((m+1:Nat):Int))).cps.toList=45::dg (m+1):=by
 have e:toString (-((m+1:Nat):Int))="-"++Nat.repr (m+1):=rfl;unfold nT;rw[e,PyProof.Rows.signs_ofString,String.toList_append,Nat.toList_repr];rfl
theorem O8(m:Nat):AllDigits (dg m):=by
 intro c hc;obtain⟨ch,hch,e⟩:=mem_map.mp hc;rw[←e];exact PyProof.Rows.digit_range (Nat.isDigit_of_mem_toDigits (!3) (!3) hch)
theorem Hi{m:Nat}(h:¬m<10):Nat.toDigits 10 m=Nat.toDigits 10 (m / 10)++Nat.toDigits 10 (m % 10):=by
 have t:Nat.toDigits 10 (m / 10)++Nat.toDigits 10 (m % 10)=Nat.toDigits 10 (10*(m / 10)+m % 10):=Nat.toDigits_append_toDigits (!3) (!1) (!1);rw[Nat.div_add_mod]at t;exact t.symm
theorem Y3:∀(k m:Nat),m<10^(k+1)->1<=(dg m).length/\(dg m).length<=k+1
 |0,m,h=>by
  unfold dg;rw[length_map,Nat.toDigits_of_lt_base (by simpa using h)];exact⟨le_refl _,le_refl _⟩
 |k+1,m,h=>by
  unfold dg;rw[length_map];by_cases hm:m<10
  ·rw[Nat.toDigits_of_lt_base hm]
   exact⟨le_refl _,by show 1<=_;omega⟩
  ·have ih:=Y3 k (m / 10) (by rw[Nat.pow_succ]at h;omega)
   unfold dg at ih;rw[length_map]at ih;rw[Hi hm,length_append,Nat.toDigits_of_lt_base (show m % 10<10 by omega)];show 1<=_+1/\_+1<=_;omega
theorem iE:∀(k:Nat)(cs:List Nat),cs.length=k->AllDigits cs->digitsVal cs<10^k
 |0,cs,hl,_=>by
  rw[List.eq_nil_of_length_eq_zero hl];exact one_pos
 |k+1,cs,hl,h=>by
  rcases List.eq_nil_or_concat cs with e|⟨ini,c,e⟩
  ·rw[e]at hl;cases hl
  ·rw[List.concat_eq_append]at e
   subst e;rw[length_append]at hl;have ih:=iE k ini (by simpa using hl) λd hd=>h d (mem_append_left _ hd)
   have hc:=h c (mem_append_right _ (mem_singleton.mpr rfl));rw[digitsVal_snoc,Nat.pow_succ];omega
theorem U7(z:Str):Txt.startswith z "-"=true↔∃cs,z.cps.toList=45::cs:=by
 unfold Txt.startswith;rw[StrLaws.subAt_eq,drop_zero];have hl:z.length=z.cps.toList.length:=by simp[Str.length]
 have h1:("-" : Str).length=1:=by decide +kernel
 have h2:("-" : Str).cps.toList=[45]:=by decide +kernel
 rw[h1,h2,hl];cases z.cps.toList with
 |nil=>simp
 |cons c cs=>
  simp only[length_cons,take_succ_cons,List.take_zero,Bool.and_eq_true,decide_eq_true_eq,beq_iff_eq,List.cons.injEq,and_true];constructor
  ·rintro ⟨_,rfl⟩;exact⟨cs,rfl,rfl⟩
  ·rintro ⟨_,rfl,_⟩;exact⟨!1,rfl⟩
theorem bX{z:Str}{c:Nat}{cs:List Nat}(h:z.cps.toList=c::cs):(Txt.slice z (some 1) none).cps.toList=cs:=by
 have e:=StrLaws.sliceText_from (x:=z) (i:=1) ⟨!3,by rw[h,length_cons];omega⟩;rw[show Txt.slice z (some 1) none=_ from e,h];show((c::cs).drop 1).take _=cs;rw[List.drop_succ_cons,drop_zero,take_of_length_le (by rw[length_cons];omega)]
def E2(z:Str):Str:=if Txt.startswith z "-"=true then Txt.slice z (some 1) none else z
def J2(z:Str):Bool:=decide (1<=(E2 z).length)&&decide ((E2 z).length<=60)&&(E2 z).cps.toList.all E1&&decide (nT ((PySem.intText? z).getD 0)=z)
theorem Y4{cs:List Nat}:cs.all E1=true↔AllDigits cs:=by
 rw[all_eq_true];unfold AllDigits E1;constructor
 ·intro h c hc
  have:=h c hc;simpa using this
 ·intro h c hc
  simpa using h c hc
theorem iF{n:Nat}(h:n<10^60):n.log2<1920:=by
 rcases Nat.eq_zero_or_pos n with e|e
 ·subst e;decide
 ·rw[Nat.log2_lt (!1)]
  exact lt_of_lt_of_le h (!0)
theorem A8(z:Str):z.length=z.cps.toList.length:=by simp[Str.length]
theorem mY{z:Str}(h1:1<=(E2 z).length)(h2:(E2 z).length<=60)(h3:(E2 z).cps.toList.all E1=true):∃n,PySem.intText? z=some n/\n.natAbs<10^60/\z.length<=61:=by
 have h3:=Y4.mp h3;unfold E2 at h1 h2 h3;by_cases hs:Txt.startswith z "-"=true
 ·rw[if_pos hs]at h1 h2 h3
  obtain⟨cs,e⟩:=(U7 z).mp hs;rw[A8,bX e]at h1 h2;rw[bX e]at h3;have hz:z.length<=61:=by rw[A8,e,length_cons];omega
  refine⟨_,intText_neg e h3 (λz=>by rw[z]at h1;cases h1) (!1),?_,hz⟩;rw[Int.natAbs_neg,Int.natAbs_natCast];exact lt_of_lt_of_le (iE _ cs rfl h3) (Nat.pow_le_pow_right (!3) h2)
 ·rw[if_neg hs]at h1 h2 h3
  rw[A8]at h1 h2;refine⟨_,intText_digits h3 (λz=>by rw[z]at h1;cases h1) (by rw[A8];omega),?_,by rw[A8];omega⟩;rw[Int.natAbs_natCast];exact lt_of_lt_of_le (iE _ _ rfl h3) (Nat.pow_le_pow_right (!3) h2)
theorem iG{n:Int}(h:n.natAbs<10^60):PySem.intText? (nT n)=some n/\(nT n).length<=61/\1<=(E2 (nT n)).length/\(E2 (nT n)).length<=60/\(E2 (nT n)).cps.toList.all E1=true:=by
 rcases(show n<0∨0<=n by omega)with hn|hn
 ·obtain⟨m,rfl⟩:∃m:Nat,n=-((m+1:Nat):Int):=⟨n.natAbs-1,!1⟩
  rw[Int.natAbs_neg,Int.natAbs_natCast]at h;have e:=bW m;have hl:=Y3 59 (m+1) h;have hs:=(U7 _).mpr ⟨_,e⟩;have hz:(nT (-((m+1:Nat):Int))).length<=61:=by rw[A8,e,length_cons];omega
  have hi:=intText_neg e (O8 _) (λz=>by rw[z]at hl;exact absurd hl.1 (!3)) (!1);rw[show digitsVal (dg (m+1))=m+1 from KIN.val_back _]at hi;refine⟨hi,hz,?_⟩;unfold E2;rw[if_pos hs,A8,bX e];exact⟨hl.1,hl.2,Y4.mpr (O8 _)⟩
 ·obtain⟨m,rfl⟩:=Int.eq_ofNat_of_zero_le hn
  rw[Int.natAbs_natCast]at h;have e:=P5 m;have hl:=Y3 59 m h;have hs:¬Txt.startswith (nT (m:Nat)) "-"=true:=λhs=>by
   obtain⟨cs,ec⟩:=(U7 _).mp hs;rw[e]at ec;have:=O8 m 45 (by rw[ec];exact mem_cons_self);omega
  have hi:=intText_digits (x:=nT (m:Nat)) (by rw[e];exact O8 _) (λz=>by rw[e]at z;rw[z]at hl;exact absurd hl.1 (!3)) (by rw[A8,e];omega);rw[e,show digitsVal (dg m)=m from KIN.val_back _]at hi;refine⟨hi,by rw[A8,e];omega,?_⟩;unfold E2;rw[if_neg hs,A8,e];exact⟨hl.1,hl.2,Y4.mpr (O8 _)⟩
theorem mZ{n:Int}(h:n.natAbs<10^60):J2 (nT n)=true:=by
 obtain⟨h1,h2,h3,h4,h5⟩:=iG h;unfold J2;rw[decide_eq_true h3,decide_eq_true h4,h5,h1];exact decide_eq_true rfl
theorem dX{z:Str}(h:J2 z=true):∃n:Int,n.natAbs<10^60/\z=nT n/\PySem.intText? z=some n:=by
 unfold J2 at h;simp only[Bool.and_eq_true,decide_eq_true_eq]at h;obtain⟨⟨⟨h1,h2⟩,h3⟩,h4⟩:=h;obtain⟨n,e,hn,_⟩:=mY h1 h2 h3;rw[e]at h4;exact⟨n,hn,h4.symm,e⟩
end Rg
namespace Rg
open PySem PySem.W PySem.Spec PyProof.Rows L2
structure Trc(h:Heap)(a:Addr)(c:Value)(d:Option Addr)(T:Addr)(fl:Value):Prop where
 exc:∃o vs,h.get? a=some o/\o.cls=c/\o.dict=d/\o.data=.fields vs/\vs[1]?=some (.ref T)
 ne:T≠a
 tb:∃o ts,h.get? T=some o/\o.data=.fields ts/\ts[3]?=some fl
structure Nts(fs:List Addr)(a:Addr)(T0:Option Addr)(h h':Heap):Prop where
 keep:∀b o,b∉fs->b≠a->some b≠T0->h.get? b=some o->h'.get? b=some o
 slot:∀b o,b∈fs->b≠a->some b≠T0->h.get? b=some o->∃sl,h'.get? b=some {o with slots:=sl}
 size:h.objs.size<=h'.objs.size
 there:∀b o,h.get? b=some o->∃o',h'.get? b=some o'
theorem Hj(o:Obj)(f:Array Value->Array Value):(o.mapFields f).dict=o.dict:=by
 obtain⟨c,d,dt,sl⟩:=o;cases dt<;>rfl
theorem nA{h:Heap}{a b:Addr}{f:Array Value->Array Value}{o:Obj}(e:h.get? b=some o):∃o',(h.update a (Obj.mapFields f)).get? b=some o':=by
 by_cases q:a=b
 ·subst q
  refine⟨_,Heap.get?_update_self _ e ?_⟩;obtain⟨c,d,dt,sl⟩:=o;have z:=(Heap.get?_some_iff.mp e).2;cases dt<;>first|rfl|exact z
 ·exact⟨o,(Heap.get?_update_other _ _ q).trans e⟩
section
variable{M:Model}{A:Around}{E:Value->Shared->Prop}{s:Shared}{base:Heap}{env:Env}{outer:List Env}{L a:Addr}{Q:Unit->Shared->Prop}
theorem wZ{oe:Obj}{vs:Array Value}{hd:Value}{nx:Bool}(hfr:A.frames=some (env::outer))(hl:s.heap.FunFrames base (env::outer))(hf:env.frame=some L)(he:s.heap.get? a=some oe)(hv:oe.data=.fields vs)(hz:1<vs.size)
  (h:∀h' T,s.heap.objs.size<=T->Trc h' a oe.cls oe.dict T (rawInt L)->Nts ((env::outer).filterMap (·.frame)) a none s.heap h'->Q () {s with heap:=h'}):
  wpAny M A (do setField (.ref a) 1 (←EntryCells.newEntry hd (←frameOf env) .none (rawInt L) .none (←entryPlaceOf L nx))) Q E s:=by
 have na:a∉(env::outer).filterMap (·.frame):=λm=>by
  obtain⟨_,o,ho,nf⟩:=hl.mem m;rw[he]at ho;cases ho;exact nf vs hv
 refine wpAny_bind (wpAny_frameOf_fun hfr hl hf λh1 s1=>?_);refine wpAny_bind (wpAny_entryPlaceOf λpl hp=>?_);unfold EntryCells.newEntry newFields;refine wpAny_bind (wpAny_newObj_type ?_ (hp.sizeOk5 _ _ _ _ _));have e1:h1.get? a=some oe:=(s1.2.1 a na).trans he;generalize hN:({cls:=.type "traceback",dict:=none,data:=.fields ([hd,.ref L,.none,rawInt L,.none]++(if pl.isEmpty then replicate 6 Value.none else pl)).toArray}:Obj)=oN;have hn3:∃ts,oN.data=.fields ts/\ts[3]?=some (rawInt L):=by
  rw[←hN];exact⟨_,rfl,!2⟩
 have nN:oN.isFreed=false:=by rw[←hN];rfl
 have e2:(h1.push oN).get? a=some oe:=Heap.get?_push_of_some _ e1;have nT:h1.objs.size≠a:=ne_of_gt (Heap.lt_size e1);refine wpAny_setField e2 hv hz (h _ h1.objs.size (le_of_eq s1.1.symm) ⟨⟨_,_,Heap.get?_update_self _ e2 (Obj.isFreed_of_fields (Obj.data_mapFields hv _)),Obj.cls_mapFields _ _,Hj _ _,Obj.data_mapFields hv _,by simp[hz]⟩,nT,?_⟩ ⟨λb o m n _ e=>?_,λb o m n _ e=>?_,?_,λb o e=>?_⟩)
 ·obtain⟨ts,t1,t2⟩:=hn3
  exact⟨oN,ts,(Heap.get?_update_other _ _ (Ne.symm nT)).trans (Heap.get?_push_size _ nN),t1,t2⟩
 ·exact(Heap.get?_update_other _ _ (Ne.symm n)).trans (Heap.get?_push_of_some _ ((s1.2.1 b m).trans e))
 ·obtain⟨sl,q⟩:=s1.2.2 b o e
  exact⟨sl,(Heap.get?_update_other _ _ (Ne.symm n)).trans (Heap.get?_push_of_some _ q)⟩
 ·rw[Heap.size_after_update,Heap.size_push,s1.1]
  exact le_succ _
 ·obtain⟨sl,q⟩:=s1.2.2 b o e
  exact nA (Heap.get?_push_of_some _ q)
theorem Hk{oe:Obj}{vs:Array Value}(hfr:A.frames=some (env::outer))(hl:s.heap.FunFrames base (env::outer))(hf:env.frame=some L)(he:s.heap.get? a=some oe)(hv:oe.data=.fields vs)(h1:vs[1]?=some .none)
  (h:∀h' T,s.heap.objs.size<=T->Trc h' a oe.cls oe.dict T (rawInt L)->Nts ((env::outer).filterMap (·.frame)) a none s.heap h'->Q () {s with heap:=h'}):
  wpAny M A (noteFrame (.ref a) env) Q E s:=by
 unfold noteFrame;simp only[hf];refine wpAny_bind (wpAny_field he hv h1 ?_);rw[if_neg (!3)];exact wZ hfr hl hf he hv (Array.getElem?_eq_some_iff.mp h1).1 h
theorem Hl{c:Value}{d:Option Addr}{T0:Addr}(hfr:A.frames=some (env::outer))(hl:s.heap.FunFrames base (env::outer))(hf:env.frame=some L)(t:Trc s.heap a c d T0 .none)
  (h:∀h' T,s.heap.objs.size<=T->Trc h' a c d T (rawInt L)->Nts ((env::outer).filterMap (·.frame)) a (some T0) s.heap h'->Q () {s with heap:=h'}):
  wpAny M A (noteFrame (.ref a) env) Q E s:=by
 obtain⟨⟨oe,vs,he,hc,hdd,hv,h1⟩,ne,oT,ts,hT,hts,h3⟩:=t;subst hc hdd;unfold noteFrame;simp only[hf];refine wpAny_bind (wpAny_field he hv h1 ?_);rw[if_pos (show(Value.ref T0 != Value.none)=true from by simp)];refine wpAny_bind (wpAny_field hT hts h3 ?_);rw[if_neg (show ¬((Value.none==rawInt L)=true)from by simp[rawInt])];refine wpAny_bind (wpAny_setField hT hts (Array.getElem?_eq_some_iff.mp h3).1 ?_);have other:∀b,b≠T0->(s.heap.update T0 (Obj.mapFields (·.setIfInBounds 3 Value.none))).get? b=s.heap.get? b:=λb hb=>Heap.get?_update_other _ _ (Ne.symm hb)
 have hl':(s.heap.update T0 (Obj.mapFields (·.setIfInBounds 3 Value.none))).FunFrames base (env::outer):=hl.of_keeps λb o hb nf=>⟨o,(other b λq=>by
  rw[q,hT]at hb;cases hb;exact nf ts hts).trans hb,rfl⟩
 refine wZ hfr hl' hf ((other a (Ne.symm ne)).trans he) hv (Array.getElem?_eq_some_iff.mp h1).1 λh' T z t' n=>h h' T ?_ t' ⟨λb o m q r e=>?_,λb o m q r e=>?_,?_,λb o e=>?_⟩
 ·rw[Heap.size_after_update]at z;exact z
 ·exact n.keep b o m q (!2) ((other b λw=>r (by rw[w])).trans e)
 ·exact n.slot b o m q (!2) ((other b λw=>r (by rw[w])).trans e)
 ·have:=n.size;rw[Heap.size_after_update]at this;exact this
 ·obtain⟨o',e'⟩:=nA (a:=T0) (f:=(·.setIfInBounds 3 Value.none)) e
  exact n.there b o' e'
theorem xA{c:Value}{d:Option Addr}{T:Addr}{fl:Value}(t:Trc s.heap a c d T fl)
  (h:∀h',Trc h' a c d T .none->(∀b,b≠T->h'.get? b=s.heap.get? b)->h'.objs.size=s.heap.objs.size->(∀b o,s.heap.get? b=some o->∃o',h'.get? b=some o')->Q () {s with heap:=h'}):wpAny M A (setFlight (.ref a) none) Q E s:=by
 obtain⟨⟨oe,vs,he,hc,hdd,hv,h1⟩,ne,oT,ts,hT,hts,h3⟩:=t;unfold setFlight;refine wpAny_bind (wpAny_field he hv h1 ?_);rw[if_pos (show(Value.ref T != Value.none)=true from by simp)];have hz:3<ts.size:=(Array.getElem?_eq_some_iff.mp h3).1;refine wpAny_setField hT hts hz (h _ ⟨⟨oe,vs,(Heap.get?_update_other _ _ ne).trans he,hc,hdd,hv,h1⟩,ne,_,_,Heap.get?_update_self _ hT (Obj.isFreed_of_fields (Obj.data_mapFields hts _)),Obj.data_mapFields hts _,by simp[hz]⟩ (λb hb=>Heap.get?_update_other _ _ (Ne.symm hb)) (Heap.size_after_update ..) λb o e=>nA e)
theorem xB{T0:Option Addr}{c:Value}{d:Option Addr}(hfr:A.frames=some (env::outer))(hl:s.heap.FunFrames base (env::outer))(hf:env.frame=some L)
  (t:(∃oe vs,s.heap.get? a=some oe/\oe.cls=c/\oe.dict=d/\oe.data=.fields vs/\vs[1]?=some .none/\T0=none)∨∃T,Trc s.heap a c d T .none/\T0=some T)
  (h:∀h' T,s.heap.objs.size<=T->Trc h' a c d T .none->Nts ((env::outer).filterMap (·.frame)) a T0 s.heap h'->Q () {s with heap:=h'}):
  wpAny M A (noteFrame (.ref a) env) (λ_ s'=>wpAny M A (setFlight (.ref a) none) Q E s') E s:=by
 have fin:∀h' T,s.heap.objs.size<=T->Trc h' a c d T (rawInt L)->Nts ((env::outer).filterMap (·.frame)) a T0 s.heap h'->wpAny M A (setFlight (.ref a) none) Q E {s with heap:=h'}:=λh' T z t' n=>by
  refine xA (s:={s with heap:=h'}) t' λh2 t2 k2 z2 th2=>?_
  have nT:∀b o,s.heap.get? b=some o->b≠T:=λb o e q=>by
   have:=Heap.lt_size e;rw[q]at this;exact absurd (lt_of_lt_of_le this z) (lt_irrefl _)
  refine h h2 T z t2 ⟨λb o m q r e=>(k2 b (nT b o e)).trans (n.keep b o m q r e),λb o m q r e=>?_,by rw[z2];exact n.size,λb o e=>?_⟩
  ·obtain⟨sl,e'⟩:=n.slot b o m q r e
   exact⟨sl,(k2 b (nT b o e)).trans e'⟩
  ·obtain⟨o',e'⟩:=n.there b o e
   exact th2 b o' e'
 rcases t with⟨oe,vs,he,hc,hdd,hv,h1,rfl⟩|⟨T,t,rfl⟩
 ·subst hc hdd
  exact Hk hfr hl hf he hv h1 fin
 ·exact Hl hfr hl hf t fin
end
end Rg
namespace Rg
open PySem PySem.W PySem.Spec PyProof.Rows L2
theorem xD{P:Program}{w:World}{H:Hp}{h h':Heap}{fs:List Addr}{a:Addr}{T0:Option Addr}(ok:HOk P w H h)(n:Nts fs a T0 h h')(hf:∀b∈fs,H b=none)(ha:H a=none)(hT:∀T,T0=some T->H T=none):HOk P w H h':=λb o e=>by
 refine(ok b o e).stay (λc u hc q=>?_) (λ_ q=>q) λ_ _ q=>q
 have hn:H c≠none:=by
  rcases hc with rfl|z
  ·rw[e];intro z;cases z
  ·rw[z];intro z;cases z
 exact n.keep c u (λm=>hn (hf c m)) (λz=>hn (z ▸ ha)) (λz=>hn (hT c z.symm)) q
def G8(P:Program)(w:World):Q1:=λouter H s E e s'=>∃(a:Addr)(c:Value)(d:Option Addr)(T:Addr)(H':Hp),e=.ref a/\s'.os=s.os/\AllBare s'.gens/\Un (N6 outer) [] H H' s.heap s'.heap/\HOk P w H' s'.heap/\
 Trc s'.heap a c d T .none/\H' a=none/\H' T=none/\s.heap.objs.size<=a/\s.heap.objs.size<=T/\E c d H'
section
variable{P:Program}{w:World}{K:Frag}{mg:Str->Option Value}{base:Heap}{N:List Str}{qual:Str}{scope:Scope}{f:Addr}{cd:Value}{A:Around}{outer:List Env}{s s1:Shared}{H H1:Hp}{E:XK}{ζ:List (Addr×Obj)}{σ:L2.St}
theorem xE{a:Addr}{c:Value}{d T0:Option Addr}(I:Inv (K1 (G8 P w) P w K mg base N qual scope f cd A outer s H E) ζ σ H1 s1)
  (t:(∃oe vs,s1.heap.get? a=some oe/\oe.cls=c/\oe.dict=d/\oe.data=.fields vs/\vs[1]?=some .none/\T0=none)∨∃T,Trc s1.heap a c d T .none/\T0=some T) (ha:H1 a=none) (na:s.heap.objs.size<=a)
  (hT:∀T,T0=some T->H1 T=none/\s.heap.objs.size<=T) (q:E c d H1):(K1 (G8 P w) P w K mg base N qual scope f cd A outer s H E).xe (.ref a) s1:=by
 show wpAny (model P w) (A.deeper (envOfC qual scope s.heap.objs.size f cd)) (leaving (envOfC qual scope s.heap.objs.size f cd) (.ref a)) _ _ s1;unfold leaving;refine wpAny_bind (xB (base:=base) (L:=s.heap.objs.size) (outer:=outer) I.ok.frames I.stack rfl t λh' T z t' n=>?_);have lt:∀b o,s.heap.get? b=some o->b≠a/\some b≠T0/\b≠s.heap.objs.size:=λb o e=>by
  have hb:=Heap.lt_size e;refine⟨λz=>?_,λz=>?_,λz=>?_⟩
  ·rw[z]at hb;exact absurd (lt_of_lt_of_le hb na) (lt_irrefl _)
  ·exact absurd (lt_of_lt_of_le hb (hT b z.symm).2) (lt_irrefl _)
  ·rw[z]at hb;exact absurd hb (lt_irrefl _)
 have u:=I.base;refine⟨a,c,d,T,H1,rfl,I.os,I.bare,⟨λb o e hn m x=>?_,λb o e hn m x=>?_,u.free,λb o e x=>?_,u.tups,u.frzs,u.tbls⟩,xD I.hok n (λb hb=>?_) ha λT e=>(hT T e).1,t',ha,I.hok.fresh z,na,le_trans I.sz z,q⟩
 ·obtain⟨l1,l2,l3⟩:=lt b o e
  refine n.keep b o (λhb=>?_) l1 l2 (u.keep b o e hn m x);rcases mem_cons.mp (show b∈s.heap.objs.size::N6 outer from hb)with y|y
  ·exact l3 y
  ·exact m y
 ·obtain⟨l1,l2,l3⟩:=lt b o e
  obtain⟨sl,e1⟩:=u.slot b o e hn m x;obtain⟨sl',e2⟩:=n.slot b _ (show b∈s.heap.objs.size::N6 outer from mem_cons_of_mem _ m) l1 l2 e1;exact⟨sl',e2⟩
 ·obtain⟨o',e1⟩:=u.there b o e x
  exact n.there b o' e1
 ·exact I.stkFree b hb
theorem Q7:aA (G8 P w) (K1 (G8 P w) P w K mg base N qual scope f cd A outer s H E) E:=fun ζ σ H1 s1 e s2 I h=>by
 obtain⟨a,c,d,T,H',rfl,os,bare,un,hok,t,ha,hT,na,nT,q⟩:=h;have I2:=I.call' (ch:=[]) os un hok bare λb z=>absurd z (!2)
 have z:s.heap.objs.size<=s1.heap.objs.size:=I.sz;exact xE I2 (.inr ⟨T,t,rfl⟩) ha (le_trans z na) (λT' e=>by cases e;exact⟨hT,le_trans z nT⟩) q
theorem xF:PassesOwn (model P w) (K1 (G8 P w) P w K mg base N qual scope f cd A outer s H E).A (K1 (G8 P w) P w K mg base N qual scope f cd A outer s H E).env (K1 (G8 P w) P w K mg base N qual scope f cd A outer s H E).xe:=λe s' h=>by
 exact wpAny_leaving_again (SameStack.refl _) h
theorem Fun.okx{x qual:Str}{st:Stmt}{f:Addr}{fd:FuncData}{N ps:List Str}{k:Nat}{sp:Sp}(F:Fun K x qual st f fd)(S:FnScope N ps (B6 st))(len:∀vs H Q E,sp vs H Q E->vs.length=ps.length)
  (hbody:∀(cdv:Value)(A:Around)(outer:List Env)(s:Shared)(H:Hp)(vs:List V)(Q:VK)(E:XK),Room k (A.deeper (envOfC qual (B6 st) s.heap.objs.size f cdv))->sp vs H Q E->
   ∃t,PSs (K1 (G8 P w) P w K mg base N qual (B6 st) f cdv A outer s H E) (O4 st) t/\t {nx:=λ_ H'=>Q .non H',rt:=Q} (start N vs) H):FnOk P w K mg base (G8 P w) (k+1) f fd ps sp:=by
 obtain⟨oc,od,kV,doc,pm,an,cdv,ct,osl,rfl,lk,hcd⟩:=F.ex;exact kY lk hcd S len λA outer s H vs Q E hr hsp=>hbody cdv A outer s H vs Q E hr hsp
end
def M6(P:Program)(w:World)(K:Frag)(mg:Str->Option Value)(base:Heap)(x:Str)(k:Nat)(ps:List Str)(sp:Sp):Prop:=
 ∃f fd,FnOk P w K mg base (G8 P w) k f fd ps sp/\Binds K fd ps []/\keepIn K (.ref f)=true/\mg x=some (.ref f)
theorem Q8{X:Cx}{x:Str}{k j:Nat}{ps:List Str}{sp:Sp}{p pos:Pos}{e:Expr}{es:List Expr}{t:TA}{E:XK}(h:M6 X.prog X.w X.K X.mg X.base x k ps sp)(hp:aA (G8 X.prog X.w) X E)(hr:Room j X.A)(hkj:k<=j)(hg:Gl X x)(ha:QA X (e::es) t)
  (hdb:(x==("__debug__" : Str))=false:=by decide) (hs:M3 (e::es)=true:=by rfl):QE X (.Call (.Name x p) (e::es) [] pos) (fX sp [] E t):=by
 obtain⟨f,fd,F,b,kp,m⟩:=h;exact⟨kW F (hr.mono hkj) hg m kp b .nil hp ha.h hdb (N8 (L6 hs).1) (U3 (L6 hs).2)⟩
end Rg
namespace Rg
open PySem Builtin Builtin.ObjectAttr
section
variable{M:Model}{prog:Program}{w:World}{A:Around}{E:Value->Shared->Prop}{h:Heap}{g:Array GenState}{d:Drawn}{t:Nat}{os:OsState}
variable{nm q:Str}{C N G x:Addr}{bs bm:List Value}{sn:List Str}{sub:List Value}{ab:Bool}{col:Option Bool}{dd:Option Addr}{k0 k1 k2 k3 k5:Option Value}{B Bn newId nid initId inN sa owner:String}{bmN:List Value}
 {c0:Value} {dG:Option Addr} {cG:ClassData} {sG:Array (Option Value)} {mN mG mA:Str->Option Value} {name:Str} {v:Value}
theorem iH{y:Option Value}{Q:Option Value->Shared->Prop}(hC:h.get? C=some (excClassObj nm q C N bs (.ref G::bm) true sn sub ab col dd k0 k1 k2 k3 k5 newId))(hn:h.Ns N mN)
  (hG:h.get? G=some {cls:=c0,dict:=dG,data:=.cls cG,slots:=sG}) (hg:h.Ns cG.ns mG) (hb:mroOf (.type B)=pure bm) (hB:typeLookup (.type B) name=pure y)
  (hq:Q (match mN name with|some v=>some v|none=>match mG name with|some v=>some v|none=>y) ⟨h,g,d,t,os⟩):wpAny M A (typeLookup (.ref C) name) Q E ⟨h,g,d,t,os⟩:=by
 have hr:lookupAlong bm name=pure y:=by rw[typeLookup_eq,hb]at hB;exact hB
 rw[typeLookup_eq];refine wpAny_bind (wpAny_mroOf_exc hC ?_);rw[lookupAlong_cons];refine wpAny_bind (wpAny_classOwn_exc hC hn ?_);cases hv:mN name with
 |some v=>rw[hv]at hq;exact wpAny_pure hq
 |none=>
  rw[hv]at hq;show wpAny M A (lookupAlong (.ref G::bm) name) Q E _;rw[lookupAlong_cons];refine wpAny_bind (wpAny_classOwn_cls hG hg ?_);cases hw:mG name with
  |some v=>rw[hw]at hq;exact wpAny_pure hq
  |none=>
   rw[hw]at hq;show wpAny M A (lookupAlong bm name) Q E _;rw[hr];exact wpAny_pure hq
end
section
variable{M:Model}{prog:Program}{w:World}{A:Around}{E:Value->Shared->Prop}{h:Heap}{g:Array GenState}{d:Drawn}{t:Nat}{os:OsState}
variable{nm q:Str}{C N G x:Addr}{bs bm:List Value}{sn:List Str}{sub:List Value}{ab:Bool}{col:Option Bool}{dd:Option Addr}{k0 k1 k2 k3 k5:Option Value}{B newId ga:String}
 {c0:Value} {dG:Option Addr} {cG:ClassData} {sG:Array (Option Value)} {mN mG mA:Str->Option Value} {name:Str} {v:Value}
theorem Hm{s:Shared}{env:Env}{x:Sem Value}{Q:Flow->Shared->Prop}(hb:bm.contains (.type "BaseException")=true)(hh:A.handled=none)
  (hz:wpAny M A x (λv s₁=>∃e o vs,v=.ref e/\s₁.heap.get? C=some (excClassObj nm q C N bs (.ref G::bm) true sn sub ab col dd k0 k1 k2 k3 k5 newId)/\s₁.heap.get? e=some o/\o.cls=.ref C/\o.data=.fields vs/\vs[1]?=some .none/\E (.ref e) s₁) E s):
  wpAny M A (raiseStmt env (some x) none) Q E s:=by
 have hcB:(Value.ref C::.ref G::bm).contains (.type "BaseException")=true:=by rw[List.contains_cons,List.contains_cons,hb,Bool.or_true,Bool.or_true]
 unfold raiseStmt;refine wpAny_bind (wpAny_mono hz (λv s₁ h₁=>?_) λ_ _ x=>x);obtain⟨e,o,vs,rfl,hC,he,hc,hd,h1,hE⟩:=h₁;obtain⟨hp,g,d,tk,os⟩:=s₁
 repeat (first|(with_reducible refine wpAny_loadPart_at he ?_;rw[hc])|with_reducible refine wpAny_field he hd h1 ?_|with_reducible refine wpAny_loadPart_at hC ?_|(with_reducible refine wpAny_isSubtype_exc hC ?_;rw[hcB])|wp_step)
 exact wpAny_raiseNew_none hh hE
end
end Rg
namespace Rg
open PySem PySem.W PySem.Spec PyProof.Rows L2
abbrev U8:List Value:=[.type "ValueError",.type "Exception",.type "BaseException",.type "object"]
def ExO(a C:Addr)(d:Option Addr)(nw:Bool):HO:=.ext λh=>∃o vs,h.get? a=some o/\o.cls=.ref C/\o.dict=d/\o.data=.fields vs/\(nw=true->vs[1]?=some .none)
theorem ExO.ok{P:Program}{w:World}{H:Hp}{h:Heap}{a C:Addr}{d:Option Addr}{nw:Bool}(e:∃o vs,h.get? a=some o/\o.cls=.ref C/\o.dict=d/\o.data=.fields vs/\(nw=true->vs[1]?=some .none)):ObjOk P w H h a (ExO a C d nw):=by
 refine⟨e,?_,λh1 h2 p k=>?_⟩
 ·obtain⟨o,vs,q,_⟩:=e
  exact⟨o,q⟩
 ·obtain⟨o,vs,q,r⟩:=p
  exact⟨o,vs,k o q,r⟩
end Rg
namespace Rg
open PySem PySem.W PySem.Spec PyProof.Rows L2
def F9(H:Hp)(a:Addr):Hp:=λb=>if b=a then none else H b
theorem K8{H:Hp}{a b:Addr}(h:b≠a):F9 H a b=H b:=if_neg h
theorem Y5{H:Hp}{a:Addr}:F9 H a a=none:=if_pos rfl
section
variable{X:Cx}{ζ:List (Addr×Obj)}{σ:L2.St}{H:Hp}{s:Shared}{x:Str}{C:Addr}{k n:Nat}{fF:List V->List (Str×V)}
theorem Inv.untrack{a C:Addr}{d:Option Addr}{nw:Bool}(I:Inv X ζ σ H s)(ea:H a=some (ExO a C d nw)):Inv X ζ σ (F9 H a) s:=by
 have nn:∀b,H b=none->F9 H a b=none:=λb h=>by
  unfold F9;split
  ·rfl
  ·exact h
 have u:=I.base;refine⟨I.ok,I.os,I.bare,⟨u.keep,u.slot,λb o e n x=>nn b (u.free b o e n x),u.there,λb xs e=>?_,λb o v e=>?_,λb ps e=>?_⟩,I.loc,I.cell,nn _ I.free,λy c e=>nn c (I.freeC y c e),λp hp=>?_,λb o e=>?_,I.len⟩
 ·have:=u.tups b xs e
  rw[K8 (Z5 this ea (by intro w;cases w))];exact this
 ·have:=u.frzs b o v e
  rw[K8 (Z5 this ea (by intro w;cases w))];exact this
 ·obtain⟨m,q⟩:=u.tbls b ps e
  exact⟨m,by rw[K8 (Z5 q ea (by intro w;cases w))];exact q⟩
 ·obtain⟨z1,z2,z3⟩:=I.pin p hp
  exact⟨z1,nn _ z2,z3⟩
 ·have w:b≠a:=λw=>by rw[w,Y5]at e;cases e
  rw[K8 w]at e;refine(I.hok b o e).stay (λ_ _ _ q=>q) (λc q=>?_) λc xs q=>?_
  ·rw[K8 (Z5 q ea (by intro w;cases w))];exact q
  ·rw[K8 (Z5 q ea (by intro w;cases w))];exact q
end
end Rg
namespace Rg
open PySem PySem.W PySem.Spec PyProof.Rows L2
section
variable{X:Cx}{ζ:List (Addr×Obj)}{σ:L2.St}{H:Hp}{s:Shared}
theorem Inv.unname{i:Nat}{n:Str}{m:Str->Option Value}{u:Option Value}{h':Heap}(I:Inv X ζ σ H s)(hN:X.N.Nodup)(hi:X.N[i]?=some n)
  (hl:∀(i:Nat)(x:Str)(v:V),X.N[i]?=some x->σ[i]?=some (some v)->cP X.env.scope x->∃u,RelV v u/\qU X.env s.heap m x u) (hn':h'.Ns X.env.locals (λx=>if x=n then u else m x)) (hs:Heap.SameBut X.env.locals s.heap h'):
  Inv X ζ (σ.set i none) H {s with heap:=h'}:=by
 obtain⟨m0,hn0,_⟩:=I.loc;obtain⟨oL,_,_,hoL,_⟩:=id hn0;have lt:∀b o,X.s₀.heap.get? b=some o->b≠X.env.locals:=λb o e=>ne_of_lt (lt_of_lt_of_le (Heap.lt_size e) I.ok.above)
 have u0:=I.base;refine⟨I.ok,I.os,I.bare,⟨λb o e n hb hx=>(hs.2 b (lt b o e)).trans (u0.keep b o e n hb hx),λb o e n hb hx=>?_,u0.free,λb o e hx=>?_,u0.tups,u0.frzs,u0.tbls⟩,⟨_,hn',λj y v e1 e2 e3=>?_⟩,λy c e=>?_,I.free,I.freeC,λp hp=>?_,λb o e=>?_,by simpa using I.len⟩
 ·obtain⟨sl,e1⟩:=u0.slot b o e n hb hx
  exact⟨sl,(hs.2 b (lt b o e)).trans e1⟩
 ·obtain⟨o',e1⟩:=u0.there b o e hx
  exact⟨o',(hs.2 b (lt b o e)).trans e1⟩
 ·by_cases hj:j=i
  ·subst hj
   rw[List.getElem?_set]at e2;simp at e2
  ·rw[getElem?_set_ne (Ne.symm hj)]at e2
   obtain⟨u',r',q⟩:=hl j y v e1 e2 e3;refine⟨u',r',?_⟩;have hy:y≠n:=λe=>hj (jZ hN e1 (e ▸ hi))
   rcases q with⟨k,e⟩|⟨k,c,e,z⟩
   ·exact .inl ⟨k,by simp[hy,e]⟩
   ·exact .inr ⟨k,c,e,z.sameBut hs (I.cne y c e)⟩
 ·obtain⟨w',z⟩:=I.cell y c e
  exact⟨w',z.sameBut hs (I.cne y c e)⟩
 ·obtain⟨e,n,ne,nf,d⟩:=I.pin p hp
  exact⟨(hs.2 p.1 ne).trans e,n,ne,nf,d⟩
 ·refine(I.hok b o e).stay (λc w' hc q=>(hs.2 c ?_).trans q) (λ_ q=>q) λ_ _ q=>q
  rintro rfl;rcases hc with rfl|hc
  ·rw[I.free]at e;cases e
  ·rw[I.free]at hc;cases hc
theorem Hn{A:Around}{E:Value->Shared->Prop}{i:Nat}{n:Str}{pos:Pos}{Q:Unit->Shared->Prop}(I:Inv X ζ σ H s)(hN:X.N.Nodup)(hi:X.N[i]?=some n)(hx:X.env.scope.names.lookup n=some .local)
  (h:∀s',Inv X ζ (σ.set i none) H s'->Q () s'):wpAny (model X.prog X.w) A (do bindName X.env n .none;unbindBehindTheSuite X.env n pos) Q E s:=by
 refine wpAny_bind (wpAny_bindName (fG I hN hi (.inl hx) (v:=.non) rfl (λs1 I1=>?_) (.inr hx)));unfold unbindBehindTheSuite;refine wpAny_onRaise ?_;obtain⟨m,hn,hl⟩:=I1.loc;have hlen:i<σ.length:=by rw[I.len];exact(List.getElem?_eq_some_iff.mp hi).1
 obtain⟨u,ru,look⟩:=hl i n .non hi (by rw[getElem?_set_self hlen]) (.inl hx);have hm:m n=some u:=by
  rcases look with⟨_,e⟩|⟨k,_⟩
  ·exact e
  ·rcases k with k|k
   ·rw[show X.env.kindOf n=X.env.scope.names.lookup n from rfl,hx]at k;cases k
   ·rw[show X.env.kindOf n=X.env.scope.names.lookup n from rfl,hx]at k;cases k
 refine wpAny_unbindName_local hx hn hm (by rw[I.ok.kind];rfl) λh' u' hn' hs=>?_
 have I2:=Inv.unname I1 hN hi hl hn' hs;have e:(σ.set i (some V.non)).set i none=σ.set i none:=by rw[List.set_set]
 rw[e]at I2;exact h _ I2
abbrev Cx.inH(X:Cx)(a:Addr):Cx:={X with A:=X.A.mark (some (.ref a)),calm:=false}
theorem Inv.inH(I:Inv X ζ σ H s)(a:Addr):Inv (Cx.inH X a) ζ σ H s:=
 ⟨⟨I.ok.mod,I.ok.kind,I.ok.glob,I.ok.blt,I.ok.above,I.ok.inj,I.ok.has,I.ok.cab,λz=>(Bool.false_ne_true z).elim,I.ok.frames,I.ok.stk,I.ok.exf,I.ok.bs,I.ok.bsz,I.ok.noex,I.ok.exfs,I.ok.funs,I.ok.frf⟩,I.os,I.bare,I.base,I.loc,I.cell,I.free,I.freeC,I.pin,I.hok,I.len⟩
theorem Inv.outH{a:Addr}(I:Inv (Cx.inH X a) ζ σ H s)(ok:X.Ok):Inv X ζ σ H s:=⟨ok,I.os,I.bare,I.base,I.loc,I.cell,I.free,I.freeC,I.pin,I.hok,I.len⟩
structure Ex(X:Cx)(ζ:List (Addr×Obj))(H:Hp)(s:Shared)(a:Addr)(c:Value)(d:Option Addr)(T:Addr):Prop where
 t:Trc s.heap a c d T .none
 ha:H a=none
 hT:H T=none
 za:X.s₀.heap.objs.size<=a
 zT:X.s₀.heap.objs.size<=T
 la:a≠X.env.locals
 lT:T≠X.env.locals
 ce:∀x c,X.env.cells.lookup x=some c->c≠a/\c≠T
 pi:∀p∈X.pn++ζ,p.1≠a/\p.1≠T
theorem Ex.off{h':Heap}{a:Addr}{c:Value}{d:Option Addr}{T:Addr}(x:Ex X ζ H s a c d T)(I:Inv X ζ σ H s)(t':Trc h' a c d T .none)(k:∀b,b≠T->h'.get? b=s.heap.get? b)(th:∀b o,s.heap.get? b=some o->∃o',h'.get? b=some o'):
  Inv X ζ σ H {s with heap:=h'}/\Ex X ζ H {s with heap:=h'} a c d T:=by
 refine⟨I.call' (ch:=[T]) rfl ⟨λb o e n hb hx=>(k b (λw=>hx (by simp[w]))).trans e,λb o e n hb hx=>⟨o.slots,(k b (λw=>hx (by simp[w]))).trans e⟩,λ_ _ _ n _=>n,λb o e _=>th b o e,λ_ _ e=>e,λ_ _ _ e=>e,λb ps e=>⟨#[],by rw[e];simp⟩⟩ (λb o e=>?_) I.bare λb hb=>?_,⟨t',x.ha,x.hT,x.za,x.zT,x.la,x.lT,x.ce,x.pi⟩⟩
 ·refine(I.hok b o e).stay (λc u hc q=>(k c (λw=>?_)).trans q) (λ_ q=>q) λ_ _ q=>q
  rcases hc with z|z
  ·rw[←z,w,x.hT]at e;cases e
  ·rw[w,x.hT]at z;cases z
 ·rw[mem_singleton.mp hb]
  exact⟨.inr x.zT,x.lT,λy c e=>(x.ce y c e).2,λp hp=>(x.pi p hp).2⟩
theorem Ex.track{a C:Addr}{d:Option Addr}{T:Addr}(x:Ex X ζ H s a (.ref C) d T)(I:Inv X ζ σ H s):Inv X ζ σ (upd H a (ExO a C d false)) s:=by
 have u:=I.base;obtain⟨o,vs,ho,hc,hd,hv,_⟩:=x.t.exc;refine⟨I.ok,I.os,I.bare,⟨u.keep,u.slot,λb o e n hx=>?_,u.there,λb xs e=>?_,λb o v e=>?_,λb ps e=>?_⟩,I.loc,I.cell,?_,λy c e=>?_,λp hp=>?_,λb ob e=>?_,I.len⟩
 ·rw[B4 (λw:b=a=>absurd (lt_of_lt_of_le (Heap.lt_size e) (w.symm ▸ x.za)) (lt_irrefl _))]
  exact u.free b o e n hx
 ·have q:=u.tups b xs e
  rw[B4 (E5 q x.ha)];exact q
 ·have q:=u.frzs b o v e
  rw[B4 (E5 q x.ha)];exact q
 ·obtain⟨m,q⟩:=u.tbls b ps e
  exact⟨m,by rw[B4 (E5 q x.ha)];exact q⟩
 ·rw[B4 (Ne.symm x.la)];exact I.free
 ·rw[B4 (x.ce y c e).1];exact I.freeC y c e
 ·obtain⟨z1,z2,z3⟩:=I.pin p hp
  exact⟨z1,by rw[B4 (x.pi p hp).1];exact z2,z3⟩
 ·by_cases w:b=a
  ·subst w
   rw[A6]at e;cases e;exact ExO.ok ⟨o,vs,ho,hc,hd,hv,λz=>absurd z (!3)⟩
  ·rw[B4 w]at e
   exact(I.hok b ob e).stay (λ_ _ _ q=>q) (λc q=>by rw[B4 (E5 q x.ha)];exact q) λc xs q=>by rw[B4 (E5 q x.ha)];exact q
end
abbrev TH:=Ends->L2.St->Addr->Addr->Option Addr->Hp->Prop
def PH(X:Cx)(hs:List ExceptHandler)(th:TH):Prop:=∀(ζ:List (Addr×Obj))(s:Shared)(σ:L2.St)(H:Hp)(D:Ends)(a C:Addr)(d:Option Addr)(T:Addr),Inv X ζ σ H s->Ex X ζ H s a (.ref C) d T->th D σ a C d H->
 wpAny (model X.prog X.w) X.A (handleBy (.ref a) X.env hs) (SP X ζ D) X.xe s
end Rg
namespace Rg
open PySem PySem.W PySem.Spec PyProof.Rows L2
namespace F
theorem Ho:typeLookup (.type "ValueError") "__class__"=pure (some (.builtin "object.__class__")):=by rw[typeLookup_type,builtinLookup_eq_fast];kernel_rfl
end F
end Rg
namespace Rg
open PySem PySem.W PySem.Spec PyProof.Rows L2
def nB(K:Frag)(C G:Addr)(ns:List Str):Bool:=match K.lookup C with
 |some ⟨.type "type",_,.cls cd,sl⟩=>(match cd.mro,sl.toList with
  |.ref C'::.ref G'::bm,[_,_,_,_,some (.builtin n),_]=>C'==C&&G'==G&&bm==U8&&n == "ValueError.__new__" && cd.hasDict && !cd.hasDel&&nsOkIn K cd.ns&&ns.all (λx=>nsIn K cd.ns x==some none)
  |_,_=>false)
 |_=>false
def nC(K:Frag)(G:Addr)(ns:List Str):Bool:=match K.lookup G with
 |some ⟨.type "type",_,.cls cd,sl⟩=>(match cd.mro,sl.toList with
  |.ref G'::bm,[_,_,_,_,some (.builtin n),_]=>G'==G&&bm==U8&&n == "ValueError.__new__" && cd.hasDict && !cd.hasDel&&nsOkIn K cd.ns&&ns.all (λx=>nsIn K cd.ns x==some none)
  |_,_=>false)
 |_=>false
abbrev dY:List Str:=["__init__","__getattribute__","__getattr__","__class__"]
structure XCn(K:Frag)(C G:Addr):Prop where
 cl:nB K C G dY=true
 up:nC K G dY=true
structure XNt(h:Heap)(C G:Addr)(nm q:Str)(N:Addr)(bs:List Value)(sn:List Str)(sub:List Value)(ab:Bool)(col:Option Bool)(dd:Option Addr)(k0 k1 k2 k3 k5:Option Value)(nm' q':Str)(N':Addr)(bs':List Value)(sn':List Str)(sub':List Value)(ab':Bool)(col':Option Bool)(dd':Option Addr)(k0' k1' k2' k3' k5':Option Value)(mN mG:Str->Option Value):Prop where
 hC:h.get? C=some (excClassObj nm q C N bs (.ref G::U8) true sn sub ab col dd k0 k1 k2 k3 k5 "ValueError.__new__")
 hn:h.Ns N mN
 hG:h.get? G=some (excClassObj nm' q' G N' bs' U8 true sn' sub' ab' col' dd' k0' k1' k2' k3' k5' "ValueError.__new__")
 hg:h.Ns N' mG
 no:∀x∈dY,mN x=none/\mG x=none
theorem XCn.at{K:Frag}{C G:Addr}{h:Heap}(x:XCn K C G)(X:K.In h):∃nm q N bs sn sub ab col dd k0 k1 k2 k3 k5 nm' q' N' bs' sn' sub' ab' col' dd' k0' k1' k2' k3' k5',XNt h C G nm q N bs sn sub ab col dd k0 k1 k2 k3 k5 nm' q' N' bs' sn' sub' ab' col' dd' k0' k1' k2' k3' k5' (h.nsMap N) (h.nsMap N'):=by
 obtain⟨e1,e2⟩:=x;unfold nB at e1;unfold nC at e2;split at e2
 ·rename_i dd' cd' sl' ho'
  split at e2
  ·rename_i G' bm' k0' k1' k2' k3' n' k5' hm' hs'
   simp only[Bool.and_eq_true,all_eq_true,beq_iff_eq,Bool.not_eq_true']at e2;obtain⟨⟨⟨⟨⟨⟨rfl,rfl⟩,rfl⟩,hdct'⟩,hdel'⟩,hok'⟩,hno'⟩:=e2;obtain⟨nm',bs',mro',ns',qn',hd',sn',sub',ab',col',del'⟩:=cd';dsimp only at hm' hdel' hok' hno' hdct';subst hm' hdel' hdct';have hsl':sl'=#[k0',k1',k2',k3',some (.builtin "ValueError.__new__"),k5']:=by
    obtain⟨l⟩:=sl';simp only at hs';rw[hs']
   subst hsl';split at e1
   ·rename_i dd cd sl ho
    split at e1
    ·rename_i C' G' bm k0 k1 k2 k3 n k5 hm hs
     simp only[Bool.and_eq_true,all_eq_true,beq_iff_eq,Bool.not_eq_true']at e1;obtain⟨⟨⟨⟨⟨⟨⟨rfl,rfl⟩,rfl⟩,rfl⟩,hdct⟩,hdel⟩,hok⟩,hno⟩:=e1;obtain⟨nm,bs,mro,ns,qn,hd,sn,sub,ab,col,del⟩:=cd;dsimp only at hm hdel hok hno hdct;subst hm hdel hdct;have hsl:sl=#[k0,k1,k2,k3,some (.builtin "ValueError.__new__"),k5]:=by
      obtain⟨l⟩:=sl;simp only at hs;rw[hs]
     subst hsl;exact⟨nm,qn,ns,bs,sn,sub,ab,col,dd,k0,k1,k2,k3,k5,nm',qn',ns',bs',sn',sub',ab',col',dd',k0',k1',k2',k3',k5',⟨X _ _ ho,.of_isNs (isNs_of_in X hok),X _ _ ho',.of_isNs (isNs_of_in X hok'),λy hy=>⟨nsMap_none_of_in X hok (hno y hy),nsMap_none_of_in X hok' (hno' y hy)⟩⟩⟩
    ·cases e1
   ·cases e1
  ·cases e2
 ·cases e2
section
variable{prog:Program}{w:World}{A:Around}{E:Value->Shared->Prop}{h:Heap}{g:Array GenState}{d:Drawn}{t:Nat}{os:OsState}
variable{nm q:Str}{C N G:Addr}{bs bm:List Value}{sn:List Str}{sub:List Value}{ab:Bool}{col:Option Bool}{dd:Option Addr}{k0 k1 k2 k3 k5:Option Value}{B Bn newId nid initId inN:String}{bmN:List Value}
 {c0:Value} {dG:Option Addr} {cG:ClassData} {sG:Array (Option Value)} {mN mG:Str->Option Value}
theorem Hq(Fn:ExcBaseFacts Bn newId inN bmN)(hBn:bm.contains (.type Bn)=true)(F:ExcBaseFacts B nid initId bm){us:List Value}{Q:Fin->Shared->Prop}
  (hC:h.get? C=some (excClassObj nm q C N bs (.ref G::bm) true sn sub ab col dd k0 k1 k2 k3 k5 newId)) (hn:h.Ns N mN) (hG:h.get? G=some {cls:=c0,dict:=dG,data:=.cls cG,slots:=sG}) (hg:h.Ns cG.ns mG)
  (hi0:mG "__init__"=none) (hi:mN "__init__"=none)
  (hq:∀h' e,Heap.MadeExcOf h h' e (.ref C) us->h.objs.size<=e->Q (.done (.ret (.ref e))) ⟨h',g,d,t,os⟩) (hus:us.length<=sizeLine):
  wpAny (model prog w) A (Builtin.«type.__call__» ⟨.ref C::us,[]⟩) Q E ⟨h,g,d,t,os⟩:=by
 have T:OwnTail h bm (.ref G::bm):=.own hG hg hi0 .base
 repeat (first|with_reducible refine wpAny_loadPart_at hC ?_|with_reducible refine wpAny_madeBy_exc hC ?_|wp_step)
 refine codeAny_call_builtin_code (Code.quiet_builtin _ Fn.quiet) (wpAny_check_new_subU Fn hBn T hC ?_);refine codeAny_exc_new_subU Fn hBn F T hC ?_ hus;show wpAny _ _ _ _ _ _;generalize hP:({cls:=.ref C,data:=.fields #[.ref h.objs.size,.none,.none,.none,.bool false,.none]}:Obj)=oP;generalize hT:({cls:=.type "tuple",data:=.seq us.toArray}:Obj)=oT;have nP:oP.isFreed=false:=by rw[←hP];rfl
 have nT:oT.isFreed=false:=by rw[←hT];rfl
 have kp:∀b o,h.get? b=some o->((h.push oT).push oP).get? b=some o:=λb o e=>Heap.get?_push_of_some _ (Heap.get?_push_of_some _ e)
 have hC1:=kp _ _ hC;have hG1:=kp _ _ hG;have hn1:((h.push oT).push oP).Ns N mN:=hn.keeps kp;have hg1:((h.push oT).push oP).Ns cG.ns mG:=hg.keeps kp;have T1:=T.keeps kp;have hs:(h.push oT).objs.size=h.objs.size+1:=Heap.size_push ..;have hget:((h.push oT).push oP).get? (h.objs.size+1)=some oP:=by rw[←hs];exact Heap.get?_push_size _ nP
 have hcls:oP.cls=.ref C:=by rw[←hP]
 have hcC:(Value.ref C::.ref G::bm).contains (.ref C)=true:=by simp
 unfold isInstance
 repeat (first|(with_reducible refine wpAny_loadPart_at hget ?_;rw[hcls])|(with_reducible refine wpAny_isSubtype_exc hC1 ?_;rw[hcC])|wp_step)
 show wpAny _ _ (typeLookup (.ref C) _) _ _ _;refine iH hC1 hn1 hG1 hg1 F.mroIs F.init.lookup ?_;rw[hi,hi0];refine wpAny_holding (wpAny_bind (wpAny_of_eq (F.init.bind _) ?_));refine wpAny_bind (wpAny_call (codeAny_call_builtin F.init.plain F.initEntry (wpAny_check_init_subU F T1 hC1 hget hcls ?_)));subst hP
 wp_walk
 have h2:((h.push oT).push {cls:=.ref C,data:=.fields #[.ref h.objs.size,.none,.none,.none,.bool false,.none]}).objs.size=h.objs.size+2:=by rw[Heap.size_push,hs]
 refine hq _ _ ⟨λb o hb=>?_,Heap.get?_none_of_le (le_succ _),h.objs.size+2,?_,Heap.get?_none_of_le (!1),?_⟩ (le_succ _)
 ·have ne:h.objs.size+1≠b:=ne_of_gt (lt_succ_of_lt (Heap.lt_size hb))
  exact(Heap.get?_update_other _ _ ne).trans (Heap.get?_push_of_some _ (kp b o hb))
 ·rw[Heap.get?_update_self _ (Heap.get?_push_of_some _ hget) rfl,h2]
  rfl
 ·have ne:h.objs.size+1≠h.objs.size+2:=by omega
  exact(Heap.get?_update_other _ _ ne).trans (Heap.get?_push_at h2.symm rfl)
theorem Hr(Fn:ExcBaseFacts Bn newId inN bmN)(hBn:bm.contains (.type Bn)=true)(F:ExcBaseFacts B nid initId bm){us:List Value}{Q:Value->Shared->Prop}
  (hC:h.get? C=some (excClassObj nm q C N bs (.ref G::bm) true sn sub ab col dd k0 k1 k2 k3 k5 newId)) (hn:h.Ns N mN) (hG:h.get? G=some {cls:=c0,dict:=dG,data:=.cls cG,slots:=sG}) (hg:h.Ns cG.ns mG)
  (hi0:mG "__init__"=none) (hi:mN "__init__"=none) (hq:∀h' e,Heap.MadeExcOf h h' e (.ref C) us->h.objs.size<=e->Q (.ref e) ⟨h',g,d,t,os⟩) (hus:us.length<=sizeLine):
  wpAny (model prog w) A (call (.ref C) us) Q E ⟨h,g,d,t,os⟩:=by
 have f1:=tc_lookup;have f2:=tc_bind (.ref C);have hT:(⟨h,g,d,t,os⟩:Shared).TypeIs (.ref C) "type":=⟨_,hC,rfl⟩;refine wpAny_call (codeAny_of_tree ?_);show wpAny _ _ (callAny (.ref C) _) _ _ _
 repeat (any_goals (first|assumption|with_reducible refine wpAny_loadPart_at hC ?_|wp_step))
 refine⟨rfl,?_⟩;refine codeAny_call_builtin_at (Code.quiet_builtin _ (!0)) entry_typeCall (wpAny_check_type_call_sub hC (Hq Fn hBn F hC hn hG hg hi0 hi (λh' e hm hz=>?_) hus));exact hq h' e hm hz
end
structure HasN(P:Program)(w:World)(K:Frag)(mg:Str->Option Value)(base:Heap)(x:Str)(C G:Addr):Prop where
 at_:mg x=some (.ref C)
 kp:keepIn K (.ref C)=true
 cl:XCn K C G
section
variable{X:Cx}{ζ:List (Addr×Obj)}{σ:L2.St}{H:Hp}{s:Shared}{x:Str}{C G:Addr}
theorem Hs{Q:Value->Shared->Prop}{us:List Value}(c:XCn X.K C G)(I:Inv X ζ σ H s)
  (q:∀e s',H e=none->s.heap.objs.size<=e->Inv X ζ σ (upd H e (ExO e C none true)) s'->Q (.ref e) s') (hz:us.length<=sizeLine):wpAny (model X.prog X.w) X.A (call (.ref C) us) Q X.xe s:=by
 obtain⟨nm,qn,N,bs,sn,sub,ab,col,dd,k0,k1,k2,k3,k5,nm',qn',N',bs',sn',sub',ab',col',dd',k0',k1',k2',k3',k5',z⟩:=c.at I.kIn;obtain⟨n1,n2⟩:=z.no "__init__" (!2);obtain⟨h,g,dr,tk,os⟩:=s;refine Hr PySem.F.excBase_ValueError (!3) PySem.F.excBase_ValueError z.hC z.hn z.hG z.hg n2 n1 (λh' e hm he=>?_) hz;obtain⟨t,e1,_,_⟩:=hm.there;have ne:H e=none:=I.hok.fresh he;exact q e _ ne he (I.laid (t':=tk) hm.keeps he (ExO.ok ⟨_,_,e1,rfl,rfl,rfl,λ_=>rfl⟩))
def Ht(E:XK)(C:Addr)(t:TA):TS:=λ_ σ H=>t σ H λvs H1=>vs.length<=9/\E (.ref C) none H1
theorem Y6{P:Program}{w:World}{K:Frag}{mg:Str->Option Value}{base:Heap}{N:List Str}{qual:Str}{scope:Scope}{fa:Addr}{cd:Value}{A:Around}{outer:List Env}{s0:Shared}{H0:Hp}{E:XK}{e:Expr}{es:List Expr}{t:TA}{np cpos pos:Pos}{j:Nat}
  (h:HasN P w K mg base x C G) (hr:Room j (K1 (G8 P w) P w K mg base N qual scope fa cd A outer s0 H0 E).A) (hg:Gl (K1 (G8 P w) P w K mg base N qual scope fa cd A outer s0 H0 E) x) (ha:QA (K1 (G8 P w) P w K mg base N qual scope fa cd A outer s0 H0 E) (e::es) t)
  (hdb:(x==("__debug__" : Str))=false:=by decide) (hs:M3 (e::es)=true:=by rfl):
  QS (K1 (G8 P w) P w K mg base N qual scope fa cd A outer s0 H0 E) (.Raise (some (.Call (.Name x np) (e::es) [] cpos)) none pos) (Ht E C t):=by
 refine⟨fun ζ s σ H D I hq=>?_⟩;have c:=h.cl;obtain⟨nm,qn,N1,bs,sn,sub,ab,col,dd,k0,k1,k2,k3,k5,nm',qn',N',bs',sn',sub',ab',col',dd',k0',k1',k2',k3',k5',z⟩:=c.at I.ok.mod.kin;rw[arm_exec_Raise];simp only[evalOpt,Option.map];refine wpAny_bind (wpAny_standAt (Hm (C:=C) (G:=G) (nm:=nm) (q:=qn) (N:=N1) (bs:=bs) (bm:=U8) (sn:=sn) (sub:=sub) (ab:=ab) (col:=col) (dd:=dd) (k0:=k0) (k1:=k1) (k2:=k2) (k3:=k3) (k5:=k5) (newId:="ValueError.__new__") (!3) hr.hd ?_));refine wpAny_bind (A9 (Q:=λv s1=>∃e o vs,v=.ref e/\s1.heap.get? C=some (excClassObj nm qn C N1 bs (.ref G::U8) true sn sub ab col dd k0 k1 k2 k3 k5 "ValueError.__new__")/\s1.heap.get? e=some o/\o.cls=.ref C/\o.data=.fields vs/\vs[1]?=some .none/\(K1 (G8 P w) P w K mg base N qual scope fa cd A outer s0 H0 E).xe (.ref e) s1) ?_ λv s1 q=>wpAny_bind (wpAny_standAt (wpAny_pure q)));refine wpAny_Call_Name_kw (aU I hg h.at_ ?_ hdb);refine callWith_K (h₀:=base) I.ok.mod.kin h.kp (A9 (ha.h cpos ζ s σ H _ I hq) λus s1 ⟨vs,H1,I1,r,hl,q⟩=>⟨I1.kIn,?_⟩) (N8 (L6 hs).1) (U3 (L6 hs).2);refine Hs (X:=K1 (G8 P w) P w K mg base N qual scope fa cd A outer s0 H0 E) c I1 (λa s2 na za I2=>?_) (by show us.length<=_;rw[←r.length];exact le_trans hl (!3));obtain⟨⟨o,ws,ho,hc,hd,hv,h1⟩,_,_⟩:=(show ObjOk P w _ s2.heap a (ExO a C none true)from I2.hok a _ A6);have I3:=Inv.untrack I2 A6;have e3:F9 (upd H1 a (ExO a C none true)) a=H1:=by
  funext b
  by_cases w:b=a
  ·subst w
   rw[Y5,na]
  ·rw[K8 w,B4 w]
 rw[e3]at I3;refine⟨a,o,ws,rfl,?_,ho,hc,hv,h1 rfl,?_⟩
 ·exact I3.bk _ _ z.hC
 ·exact xE I3 (.inl ⟨o,ws,ho,hc,hd,hv,h1 rfl,rfl⟩) na (le_trans I1.sz za) (λT e=>by cases e) q
end
section
variable{M:Model}{A:Around}{E:Value->Shared->Prop}{h:Heap}{g:Array GenState}{dr:Drawn}{tk:Nat}{os:OsState}
theorem Hu{C G e:Addr}{K:Frag}{oe:Obj}{Q:Bool->Shared->Prop}(X:K.In h)(c:XCn K C G)(he:h.get? e=some oe)(hcls:oe.cls=.ref C)(hq:Q true ⟨h,g,dr,tk,os⟩):
  wpAny M A (excMatches (.ref e) (.ref G)) Q E ⟨h,g,dr,tk,os⟩:=by
 obtain⟨nm,qn,N,bs,sn,sub,ab,col,dd,k0,k1,k2,k3,k5,nm',qn',N',bs',sn',sub',ab',col',dd',k0',k1',k2',k3',k5',z⟩:=c.at X;have hC:=z.hC;have hG:=z.hG;have hcB:(Value.ref G::U8).contains (.type "BaseException")=true:=by rw[List.contains_cons];rfl
 have hcC:(Value.ref C::.ref G::U8).contains (.ref G)=true:=by
  rw[List.contains_cons,List.contains_cons];simp
 have f:=tc_notTuple;unfold excMatches
 repeat (first|(with_reducible refine wpAny_loadPart_at he ?_;rw[hcls])|with_reducible refine wpAny_loadPart_at hG ?_|(with_reducible refine wpAny_isSubtype_exc hG ?_;rw[hcB])|(with_reducible refine wpAny_isSubtype_exc hC ?_;rw[hcC])|wp_step)
 exact hq
end
def Hv(K:Frag)(G:Addr)(i:Nat)(ts:TS):TH:=λD σ a C d H=>XCn K C G/\ts {nx:=fun σ' H'=>D.nx (σ'.set i none) H',rt:=λ_ _=>False} (σ.set i (some (.ref a))) (upd H a (ExO a C d false))
theorem Hw{X:Cx}{x n:Str}{np pos:Pos}{b0:Stmt}{suite:List Stmt}{E3:List ExceptHandler}{G:Addr}{i:Nat}{ts:TS}(K:Frag)(hg:Gl X x)(hm:X.mg x=some (.ref G))(hN:X.N.Nodup)(hi:X.N[i]?=some n)(hx:X.env.scope.names.lookup n=some .local)
  (hs:∀a,QSs (Cx.inH X a) (b0::suite) ts) (no:∀e s,¬X.xe e s) (hd:(x==("__debug__" : Str))=false:=by decide) (hK:X.K=K:=by rfl):PH X (.ExceptHandler (some (.Name x np)) (some n) (b0::suite) pos::E3) (Hv K G i ts):=by
 subst hK;rintro ζ s σ H D a C d T I ex ⟨c,q⟩;obtain⟨o,vs,ho,hc,_⟩:=id ex.t.exc;refine wpAny_handleBy_cons (codeAny_handlers_test (aU (X:=Cx.inH X a) (Inv.inH I a) hg hm ?_ hd)) (by intro q;cases q);have kin:=I.kIn;obtain⟨h,g,dr,tk,os⟩:=s;refine Hu kin c ho hc ?_;rw[if_pos rfl];refine codeAny_handlers_suite_as (xA ex.t λh' t' k z th'=>?_);obtain⟨I1,ex1⟩:=ex.off I t' k th';have I2:=ex1.track I1;refine fG (X:=Cx.inH X a) (Inv.inH I2 a) hN hi (.inl hx) (v:=.ref a) rfl (λs3 I3=>?_) (.inr hx);refine wpAny_mono ((hs a).h ζ s3 _ _ _ I3 q) (λfl s4 z4=>?_) λe s4 z4=>absurd z4 (no e s4)
 cases fl with
 |next=>
  obtain⟨σ4,H4,I4,q4⟩:=z4;exact Hn (Inv.outH I4 I.ok) hN hi hx λs5 I5=>⟨_,H4,I5,q4⟩
 |brk=>obtain⟨_,_,_,q4⟩:=z4;exact q4.elim
 |cont=>obtain⟨_,_,_,q4⟩:=z4;exact q4.elim
 |ret u=>obtain⟨_,_,_,_,_,q4⟩:=z4;exact q4.elim
def Hx(sp:Sp)(t:TA)(th:TH):TS:=λD σ H=>t σ H λvs H1=>sp vs H1 (λv H2=>D.nx σ H2) (λc d H2=>∃C,c=.ref C/\∀a,H2 a=none->th D σ a C d H2)
theorem Hy{X:Cx}{x:Str}{k j:Nat}{ps:List Str}{sp:Sp}{p pos epos tpos:Pos}{e:Expr}{es:List Expr}{t:TA}{h0:ExceptHandler}{hs:List ExceptHandler}{th:TH}(h:M6 X.prog X.w X.K X.mg X.base x k ps sp)(hr:Room j X.A)(hkj:k<=j)(hg:Gl X x)(ha:QA X (e::es) t)
  (hh:PH X (h0::hs) th) (no:∀e s,¬X.xe e s) (hst:X.stack=X.env::X.outer) (hfr:X.env.frame=some X.env.locals)
  (hsw:swapsWith (.Call (.Name x p) (e::es) [] pos) none epos.line X.env=pure false:=by rfl)
  (hdb:(x==("__debug__" : Str))=false:=by decide) (hs':M3 (e::es)=true:=by rfl):
  QS X (.Try [.Expr (.Call (.Name x p) (e::es) [] pos) epos] (h0::hs) [] [] tpos) (Hx sp t th):=by
 refine⟨fun ζ s σ H D I q=>?_⟩;obtain⟨f,fd,F,b,kp,m⟩:=h;refine wpAny_Try_except (wpAny_execs_cons ?_);refine wpAny_Expr_any ?_ I.quiet hsw;refine wpAny_Call_Name_kw (aU I hg m ?_ hdb);refine callWith_K (h₀:=X.base) I.ok.mod.kin kp (wpAny_mono (ha.h pos ζ s σ H _ I q) (λus s1 ⟨vs,H1,I1,r,q1⟩=>⟨I1.kIn,?_⟩) λe s1 z=>absurd z (no e s1)) (N8 (L6 hs').1) (U3 (L6 hs').2);have hl:(us++[]).length=ps.length:=by rw[append_nil,←r.length];exact F.len _ _ _ _ q1
 refine wpAny_call (codeAny_mono (F.run X.A X.stack s1 H1 ⟨us,[]⟩ us vs _ _ (hr.mono hkj) I1.env0 (by have:=b s1 us I1.kIn hl;rw[append_nil]at this;exact this) r q1) λr s2 hq=>?_);cases r with
 |ok fl=>
  cases fl with
  |ret u=>
   obtain⟨v,H2,I2,rv,q2⟩:=I1.after hq;exact wpAny_execs_nil (wpAny_execs_nil ⟨_,H2,I2,q2⟩)
  |next=>exact False.elim hq
  |brk=>exact False.elim hq
  |cont=>exact False.elim hq
 |error ev=>
  obtain⟨a,c,d,T,H2,rfl,os,bare,un,hok,tr,na,nT,za,zT,C,rfl,q2⟩:=hq;have I2:=I1.call' (ch:=[]) os un hok bare λb z=>absurd z (!2)
  have e1:∀b o,s1.heap.get? b=some o->b≠a/\b≠T:=λb o e=>⟨λw=>absurd (lt_of_lt_of_le (Heap.lt_size e) (w ▸ za)) (lt_irrefl _),λw=>absurd (lt_of_lt_of_le (Heap.lt_size e) (w ▸ zT)) (lt_irrefl _)⟩
  have l1:∃o,s1.heap.get? X.env.locals=some o:=by
   obtain⟨_,⟨o,_,_,e,_⟩,_⟩:=I1.loc;exact⟨o,e⟩
  have l2:∃o,s2.heap.get? X.env.locals=some o:=by
   obtain⟨_,⟨o,_,_,e,_⟩,_⟩:=I2.loc;exact⟨o,e⟩
  have c1:∀x c,X.env.cells.lookup x=some c->c≠a/\c≠T:=λx c e=>by
   obtain⟨_,o,h,_⟩:=I1.cell x c e;exact e1 c o h
  have p1:∀p∈X.pn++ζ,p.1≠a/\p.1≠T:=λp hp=>e1 _ _ (I1.pin p hp).1
  obtain⟨oL,hL⟩:=l1;obtain⟨oL2,hL2⟩:=l2;refine xB (base:=X.base) (L:=X.env.locals) (outer:=X.outer) (by rw[I2.ok.frames,hst]) (by have:=I2.stack;rw[hst]at this;exact this) hfr (.inr ⟨T,tr,rfl⟩) λh' T' z t' n=>?_
  have e2:∀b o,s2.heap.get? b=some o->b≠T':=λb o e w=>absurd (lt_of_lt_of_le (Heap.lt_size e) (w ▸ z)) (lt_irrefl _)
  have fsE:(X.env::X.outer).filterMap (·.frame)=N6 X.stack:=by rw[hst];rfl
  rw[fsE]at n;have I3:Inv X ζ σ H2 {s2 with heap:=h'}:=I2.call' (ch:=[a,T]) rfl ⟨λb o e nb hb hx=>n.keep b o hb (λw=>hx (by simp[w])) (λw=>hx (by cases w;simp)) e,λb o e nb hb hx=>n.slot b o hb (λw=>hx (by simp[w])) (λw=>hx (by cases w;simp)) e,λ_ _ _ nb _=>nb,λb o e _=>n.there b o e,λ_ _ e=>e,λ_ _ _ e=>e,λb ps e=>⟨#[],by rw[e];simp⟩⟩
   (xD I2.hok n (λb hb=>I2.stkFree b hb) na λT0 e=>by cases e;exact nT) I2.bare λb hb=>by
    rcases mem_cons.mp hb with w|w
    ·subst w
     exact⟨.inr (le_trans I1.sz za),Ne.symm (e1 _ _ hL).1,λx c e=>(c1 x c e).1,λp hp=>(p1 p hp).1⟩
    ·rw[mem_singleton.mp w]
     exact⟨.inr (le_trans I1.sz zT),Ne.symm (e1 _ _ hL).2,λx c e=>(c1 x c e).2,λp hp=>(p1 p hp).2⟩
  refine hh ζ _ σ H2 D a C d T' I3 ⟨t',na,I2.hok.fresh z,le_trans I1.sz za,le_trans I2.sz z,Ne.symm (e1 _ _ hL).1,Ne.symm (e2 _ _ hL2),λx c e=>⟨(c1 x c e).1,?_⟩,λp hp=>⟨(p1 p hp).1,e2 _ _ (I2.pin p hp).1⟩⟩ (q2 a na);obtain⟨_,o,hc,_⟩:=I2.cell x c e;exact e2 c o hc
section
variable{prog:Program}{w:World}{A:Around}{E:Value->Shared->Prop}{h:Heap}{g:Array GenState}{dr:Drawn}{tk:Nat}{os:OsState}
theorem Hz{K:Frag}{C G a:Addr}{o:Obj}{Q:Option Value->Shared->Prop}(X:K.In h)(c:XCn K C G)(hx:h.get? a=some o)(hc:o.cls=.ref C)(hnc:∀c,o.data≠.cls c)(hq:Q (some (.ref C)) ⟨h,g,dr,tk+1,os⟩):
  wpAny (model prog w) A (getAttr? (.ref a) "__class__") Q E ⟨h,g,dr,tk,os⟩:=by
 obtain⟨nm,qn,N,bs,sn,sub,ab,col,dd,k0,k1,k2,k3,k5,nm',qn',N',bs',sn',sub',ab',col',dd',k0',k1',k2',k3',k5',z⟩:=c.at X;have hC:=z.hC;have FB:=PySem.F.attrBase_ValueError;have f3:=FB.ga.bind (.ref a);obtain⟨p1,p2⟩:=z.no "__getattribute__" (!2);obtain⟨p3,p4⟩:=z.no "__getattr__" (!2);have hcB:(Value.ref C::.ref G::U8).contains (.type "BaseException")=true:=by rw[List.contains_cons,List.contains_cons];rfl
 unfold getAttr? getAttrBy?
 repeat (any_goals (first|assumption|(with_reducible refine wpAny_loadPart_at hx ?_;rw[hc])|(with_reducible refine iH hC z.hn z.hG z.hg FB.mro FB.ga.lookup ?_;rw[p1,p2])|(with_reducible refine iH hC z.hn z.hG z.hg FB.mro FB.noGetattr ?_;rw[p3,p4])|wp_step))
 refine codeAny_call_builtin FB.ga.plain PySem.F.entry_bexc_ga ?_;have hk:builtinKind "BaseException.__getattribute__"=some .slot:=by decide +kernel
 have hsp:splitId "BaseException.__getattribute__"=some ("BaseException","__getattribute__"):=by decide +kernel
 have ha:=PySem.F.args_bexc_ga (.ref a) (.str "__class__" tk);obtain⟨p5,p6⟩:=z.no "__class__" (!2);have hT5:(⟨h,g,dr,tk+1,os⟩:Shared).TypeIs (.builtin "object.__class__") "getset_descriptor":=PySem.F.typeOf_object_class;have f5:=PySem.F.typeOf_object_class;have f6:=PySem.F.slot_gs_get.lookup;have f7:=PySem.F.slot_gs_set.lookup;have hcO:(Value.ref C::.ref G::U8).contains (.type (".".intercalate ("object.__class__".cutAt '.').dropLast))=true:=by
  rw[PySem.F.owner_object_class,List.contains_cons,List.contains_cons];rfl
 simp only[checkBuiltinCall,hk,hsp];refine wpAny_bind ?_;unfold isInstance
 repeat (first|(with_reducible refine wpAny_loadPart_at hx ?_;rw[hc])|(with_reducible refine wpAny_isSubtype_exc hC ?_;rw[hcB])|wp_step)
 repeat (any_goals (first|assumption|(with_reducible refine wpAny_loadPart_at hx ?_;rw[hc])|(with_reducible refine iH hC z.hn z.hG z.hg FB.mro F.Ho ?_;rw[p5,p6])|wp_step))
 refine codeAny_call_builtin PySem.F.slot_gs_get.plain PySem.F.entry_gs_get (PySem.F.slot_gs_get.check _ _ _ _ _ _ _ _ hT5 (PySem.F.args_gs_get _ _ _) ?_)
 repeat (any_goals (first|assumption|(with_reducible refine wpAny_loadPart_at hx ?_;rw[hc])|(with_reducible refine wpAny_isSubtype_exc hC ?_;rw[hcO])|wp_step))
 refine⟨Code.quiet_builtin _ (!0),codeAny_builtin PySem.F.entry_object_class ?_⟩
 repeat (any_goals (first|assumption|(with_reducible refine wpAny_loadPart_at hx ?_;rw[hc])|with_reducible refine wpAny_loadPart_at hC ?_|wp_step))
end
theorem HA{K:Frag}{C G a:Addr}(c:XCn K C G):PySem.W.KitX K (.ref a) (.ref C) (λh=>∃o vs,h.get? a=some o/\o.cls=.ref C/\o.data=.fields vs) where
 ty:=λM h X p=>by
  obtain⟨o,vs,h1,h2,_⟩:=p;exact h2 ▸ (PySem.W.Looks.ld h1).andThen .now
 it:=λM h X _=>by
  obtain⟨nm,qn,N,bs,sn,sub,ab,col,dd,k0,k1,k2,k3,k5,nm',qn',N',bs',sn',sub',ab',col',dd',k0',k1',k2',k3',k5',z⟩:=c.at X;intro A' Q' E' s' k q;unfold isType loadHead;exact wpAny_bind (wpAny_loadPart (k _ _ z.hC) (wpAny_pure q))
 ne:=λh tp dd its n sl X htp=>by
  obtain⟨nm,qn,N,bs,sn,sub,ab,col,dd,k0,k1,k2,k3,k5,nm',qn',N',bs',sn',sub',ab',col',dd',k0',k1',k2',k3',k5',z⟩:=c.at X;refine Bool.eq_false_iff.mpr λq=>?_
  have e:C=tp:=Value.ref.inj (beq_iff_eq.mp q);subst e;have w:=congrArg Obj.data (Option.some.inj (z.hC.symm.trans htp));cases w
 ca:=λ{prog w A E Q s} X p k=>by
  obtain⟨o,vs,h1,h2,h3⟩:=p;obtain⟨h,g,dr,tk,os⟩:=s;exact Hz X c h1 h2 (λcd e=>by rw[h3]at e;cases e) k
@[irreducible] def bY(K:Frag):List V->Hp->VK->Prop:=λxs H Q=>∃a C G d nw v cv b,xs=[.ref a,v]/\XCn K C G/\H a=some (ExO a C d nw)/\(∀u,RelV v u->u=cv)/\kitOne K (.ref C) cv=some b/\Q (.bl b) H
theorem dZ{X:Cx}(K:Frag)(hK:X.K=K:=by rfl):QC X (.builtin "isinstance") (bY K):=by
 subst hK;refine⟨fun ζ s σ H vs us Q I r q=>?_⟩;unfold bY at q;obtain⟨a,C,G,d,nw,v,cv,b,rfl,c,ea,hv,e,q⟩:=q;cases r with
 |cons r1 r=>
  cases r with
  |cons r2 r=>
   cases r;cases hv _ r2;cases(show _=Value.ref a from r1);obtain⟨⟨o,ws,ho,hc,hd,hw,_⟩,_,_⟩:=(show ObjOk X.prog X.w H s.heap a (ExO a C d nw)from I.hok a _ ea);exact kia_one (HA c) I.kIn ⟨o,ws,ho,hc,hw⟩ e (λz=>nomatch z) λtk=>⟨.bl b,H,I.tok tk,rfl,q⟩
theorem iI{K:Frag}{H:Hp}{Q:VK}{a C G D:Addr}{d:Option Addr}{nw b:Bool}(c:XCn K C G)(ea:H a=some (ExO a C d nw))(e:kitOne K (.ref C) (.ref D)=some b)(q:Q (.bl b) H):bY K [.ref a,.ref D] H Q:=by
 unfold bY;exact⟨a,C,G,d,nw,_,_,b,rfl,c,ea,λ_ h=>h,e,q⟩
theorem HB{K:Frag}{H:Hp}{Q:VK}{a C G:Addr}{n:String}{d:Option Addr}{nw b:Bool}(c:XCn K C G)(ea:H a=some (ExO a C d nw))(e:kitOne K (.ref C) (.type n)=some b)(q:Q (.bl b) H):bY K [.ref a,.ty n] H Q:=by
 unfold bY;exact⟨a,C,G,d,nw,_,_,b,rfl,c,ea,λ_ h=>h,e,q⟩
end Rg
namespace Rg
open PySem PySem.W PySem.Spec PyProof.Rows L2 Builtin.Str
theorem nD{c:Nat}:∀{a b r s:List Nat},c∉a->c∉b->a++c::r=b++c::s->a=b/\r=s
 |[],[],_,_,_,_,e=>⟨rfl,List.cons.inj e |>.2⟩
 |[],y::b,_,_,_,hb,e=>absurd (by rw[(List.cons.inj e).1];exact mem_cons_self) hb
 |x::a,[],_,_,ha,_,e=>absurd (by rw[←(List.cons.inj e).1];exact mem_cons_self) ha
 |x::a,y::b,_,_,ha,hb,e=>by
  obtain⟨e1,e2⟩:=List.cons.inj e;obtain⟨h1,h2⟩:=nD (λh=>ha (mem_cons_of_mem _ h)) (λh=>hb (mem_cons_of_mem _ h)) e2;exact⟨by rw[e1,h1],h2⟩
theorem Q9{a b:Str}(h:a.cps.toList=b.cps.toList):a=b:=by
 cases a;cases b
 congr
 exact Array.toList_inj.mp h
end Rg
namespace Rg
open PySem PySem.W PySem.Spec PyProof.Rows L2 Builtin.Str
section
variable{X:Cx}
theorem HC:QM X "str.startswith" (λx vs H Q=>∃(z y:Str)(i:Int),x=.str z/\vs=[.str y,.int i]/\Q (.bl (Txt.startswith3 z y i)) H):=⟨by
 intro ζ s σ H x vs v us Q I rx rv h;obtain⟨z,y,i,rfl,rfl,q⟩:=h;obtain⟨t,rfl⟩:=rx;cases rv with
 |cons r1 rv=>
  cases rv with
  |cons r2 rv=>
   cases rv;obtain⟨t1,rfl⟩:=r1;obtain⟨t2,rfl⟩:=r2;exact SC.startswith3 ⟨.bl _,H,I,rfl,q⟩⟩
theorem HD:QM X "str.find" (λx vs H Q=>∃z y:Str,x=.str z/\vs=[.str y]/\Q (.int (Txt.find z y)) H):=⟨by
 intro ζ s σ H x vs v us Q I rx rv h;obtain⟨z,y,rfl,rfl,q⟩:=h;obtain⟨t,rfl⟩:=rx;obtain⟨u,rfl,ru⟩:=K9 rv;obtain⟨t',rfl⟩:=ru;exact SC.find ⟨.int _,H,I.tok _,⟨_,rfl⟩,q⟩⟩
theorem HE(hc:X.calm=true):CallR X (.builtin "min") (λxs H Q=>∃(a:Addr)(ns:List Int),xs=[.ref a]/\H a=some (.lst (ns.map V.int))/\ns≠[]/\∀M,M∈ns->(∀x∈ns,M<=x)->Q (.int M) H):=by
 intro ζ s σ H xs us Q I r h;obtain⟨a,ns,rfl,ha,hne,q⟩:=h;obtain⟨u,rfl,ru⟩:=K9 r;cases ru;obtain⟨_,its,n,rv,e⟩:=I.hok a _ ha;have hi:=vH rv;obtain⟨xs,hx⟩:=hi.allInts.items;have hl:s.heap.IsList a its.toArray:=⟨_,e,rfl,n,rfl⟩;have hns:ns=xs.toList.map (·.1):=by
  rw[←hi.numsOf,←nums_intItems,←hx]
 have hsz:0<xs.size:=by
  have h3:0<ns.length:=List.length_pos_iff.mpr hne;rw[hns,length_map,Array.length_toList]at h3;exact h3
 rw[hx]at hl;refine min_intList (I.ok.hd hc) hl hsz λv h' tk hv hk=>?_
 obtain⟨t,rfl⟩:=intItems_at hv;obtain⟨h1,h2⟩:=argBest_lt (numAt xs) (xs.size-1);refine⟨.int _,H,I.kept (t':=tk) hk,⟨t,rfl⟩,q _ ?_ λa ha=>?_⟩
 ·rw[hns,numAt_eq];exact getD_mem (by rw[length_map,Array.length_toList];omega)
 ·rw[hns]at ha
  obtain⟨j,hj,rfl⟩:=mem_getD ha;rw[length_map,Array.length_toList]at hj;rw[←numAt_eq];exact h2 j (!1)
theorem HF(hc:X.calm=true):QC X (.builtin "min") (λxs H Q=>∃(a:Addr)(ns:List Int),xs=[.ref a]/\H a=some (.lst (ns.map V.int))/\ns≠[]/\∀M,M∈ns->(∀x∈ns,M<=x)->Q (.int M) H):=⟨HE hc⟩
theorem HG:QC X (.type "str") (λxs H Q=>(∃i:Int,xs=[.int i]/\i.natAbs.log2<1920/\Q (.str (toString i)) H)∨∃z:Str,xs=[.str z]/\Q (.str z) H):=⟨by
 intro ζ s σ H xs us Q I r h;rcases h with⟨i,rfl,hi,q⟩|⟨z,rfl,q⟩
 ·obtain⟨u,rfl,t,rfl⟩:=K9 r
  exact P.str_of_int hi ⟨.str _,H,I.tok _,⟨_,rfl⟩,q⟩
 ·obtain⟨u,rfl,t,rfl⟩:=K9 r
  exact P.str_of_str ⟨.str _,H,I,⟨_,rfl⟩,q⟩⟩
theorem HH{K:Frag}{H:Hp}{Q:VK}{a:Addr}{xs:List V}{x:V}(h:H a=some (.tup xs))(q:Q (.bl (!bB x xs)) H)(f1:U0 x=true:=by rfl)(f2:xs.all U0=true:=by rfl):dD K x (.ref a) H Q:=by
 unfold dD;exact .inr (.inl ⟨a,xs,rfl,.inr (SqT.of h),f1,f2,q⟩)
end
theorem HI(z y:Str)(i:Nat)(hi:i<=z.length):Txt.startswith3 z y (i:Nat)=y.cps.toList.isPrefixOf (z.cps.toList.drop i):=by
 have hz:=A8 z;have hy:=A8 y;unfold Txt.startswith3;have e:fromIndex z.length ((i:Nat):Int)=i:=by
  unfold fromIndex
  first|(simp;omega)|simp|omega
 rw[e,StrLaws.subAt_eq,Bool.eq_iff_iff,Bool.and_eq_true,decide_eq_true_eq,beq_iff_eq,List.isPrefixOf_iff_prefix,List.prefix_iff_eq_take,hy];constructor
 ·rintro ⟨h1,h2⟩
  exact h2.symm
 ·intro h
  refine⟨?_,h.symm⟩;have:=congrArg length h;rw[length_take,length_drop]at this;omega
end Rg
namespace Rg
open PySem L2
def K0(c:Nat):Bool:=decide (97<=c)&&decide (c<=122)
def G5(c:Nat):Bool:=K0 c||E1 c||c==45
def C7(z:Str):Bool:=decide (1<=z.length)&&decide (z.length<=8)&&z.cps.toList.all K0
abbrev sL(cs:List Nat):Str:=⟨cs.toArray⟩
theorem Y7(cs:List Nat):(sL cs).cps.toList=cs:=rfl
theorem O0(z:Str):sL z.cps.toList=z:=by cases z;rfl
mutual
def Th.tx:Th->List Nat
 |.num i=>(nT i).cps.toList
 |.word x=>x.cps.toList
 |.row l=>91::(l.txR true++[93])
 |.dic l=>123::(l.txD true++[125])
def Ts.txR:Ts->Bool->List Nat
 |.nil,_=>[]
 |.cons _ t r,b=>(if b then[]else[44,32])++(t.tx++r.txR false)
def Ts.txD:Ts->Bool->List Nat
 |.nil,_=>[]
 |.cons k t r,b=>(if b then[]else[44,32])++(k.cps.toList++58::32::(t.tx++r.txD false))
end
mutual
def Th.Wf:Th->Prop
 |.num i=>i.natAbs<10^60
 |.word x=>C7 x=true
 |.row l=>l.WfR
 |.dic l=>l.WfD Str.empty
def Ts.WfR:Ts->Prop
 |.nil=>True
 |.cons k t r=>k=Str.empty/\t.Wf/\r.WfR
def Ts.WfD:Ts->Str->Prop
 |.nil,_=>True
 |.cons k t r,last=>C7 k=true/\C3 last k=true/\t.Wf/\r.WfD k
end
mutual
def Th.dp:Th->Nat
 |.num _=>1
 |.word _=>1
 |.row l=>l.dp+1
 |.dic l=>l.dp+1
def Ts.dp:Ts->Nat
 |.nil=>0
 |.cons _ t r=>max t.dp r.dp
end
def U9(s:List Nat):Option (Th×List Nat):=
 if C7 (sL (s.takeWhile G5))=true then some (.word (sL (s.takeWhile G5)),s.dropWhile G5)
 else if J2 (sL (s.takeWhile G5))=true then some (.num ((PySem.intText? (sL (s.takeWhile G5))).getD 0),s.dropWhile G5)else none
def L9(a:Nat):List Nat->Option (List Nat)
 |c::r=>if c=a then some r else none
 |[]=>none
def O1(a b:Nat)(s:List Nat):Option (List Nat):=(L9 a s).bind (L9 b)
def P6(last:Str)(s:List Nat):Option (Str×List Nat):=
 if C7 (sL (s.takeWhile K0))=true/\C3 last (sL (s.takeWhile K0))=true then(O1 58 32 (s.dropWhile K0)).map λr=>(sL (s.takeWhile K0),r)else none
def M7(rd:List Nat->Option (Th×List Nat)):Nat->List Nat->Option (Ts×List Nat)
 |0,_=>none
 |n+1,s=>match O1 44 32 s with
  |some r=>(rd r).bind λp=>(M7 rd n p.2).map λq=>(.cons Str.empty p.1 q.1,q.2)
  |none=>(L9 93 s).map λr=>(.nil,r)
def M0(rd:List Nat->Option (Th×List Nat)):Nat->Str->List Nat->Option (Ts×List Nat)
 |0,_,_=>none
 |n+1,last,s=>match O1 44 32 s with
  |some r=>(P6 last r).bind λf=>(rd f.2).bind λp=>(M0 rd n f.1 p.2).map λq=>(.cons f.1 p.1 q.1,q.2)
  |none=>(L9 125 s).map λr=>(.nil,r)
def R1(rd:List Nat->Option (Th×List Nat))(s:List Nat):Option (Th×List Nat):=match L9 93 s with
 |some r=>some (.row .nil,r)
 |none=>(rd s).bind λp=>(M7 rd (p.2.length+1) p.2).map λq=>(.row (.cons Str.empty p.1 q.1),q.2)
def O9(rd:List Nat->Option (Th×List Nat))(s:List Nat):Option (Th×List Nat):=match L9 125 s with
 |some r=>some (.dic .nil,r)
 |none=>(P6 Str.empty s).bind λf=>(rd f.2).bind λp=>(M0 rd (p.2.length+1) f.1 p.2).map λq=>(.dic (.cons f.1 p.1 q.1),q.2)
def B7:Nat->List Nat->Option (Th×List Nat)
 |0,_=>none
 |d+1,s=>match L9 91 s with
  |some r=>R1 (B7 d) r
  |none=>match L9 123 s with
   |some r=>O9 (B7 d) r
   |none=>U9 s
theorem eA(a c:Nat)(r:List Nat):L9 a (c::r)=if c=a then some r else none:=rfl
theorem Y8{a:Nat}{s r:List Nat}(h:L9 a s=some r):s=a::r:=by
 cases s with
 |nil=>cases h
 |cons c q=>
  rw[eA]at h;by_cases e:c=a
  ·rw[if_pos e]at h
   cases h;rw[e]
  ·rw[if_neg e]at h
   cases h
theorem Y9(a:Nat)(r:List Nat):L9 a (a::r)=some r:=by rw[eA,if_pos rfl]
theorem Z0{a c:Nat}(r:List Nat)(h:c≠a):L9 a (c::r)=none:=by rw[eA,if_neg h]
theorem iJ{a b:Nat}{s r:List Nat}(h:O1 a b s=some r):s=a::b::r:=by
 unfold O1 at h;obtain⟨q,h1,h2⟩:=Option.bind_eq_some_iff.mp h;rw[Y8 h1,Y8 h2]
theorem nE(a b:Nat)(r:List Nat):O1 a b (a::b::r)=some r:=by unfold O1;rw[Y9];exact Y9 b r
theorem xG{a b c:Nat}(r:List Nat)(h:c≠a):O1 a b (c::r)=none:=by unfold O1;rw[Z0 r h];rfl
def nF(d:Nat)(rd:List Nat->Option (Th×List Nat)):Prop:=∀s t r,rd s=some (t,r)->s=t.tx++r/\t.Wf/\t.dp<=d
theorem nG{last k:Str}{s r:List Nat}(h:P6 last s=some (k,r)):s=k.cps.toList++58::32::r/\C7 k=true/\C3 last k=true:=by
 unfold P6 at h;split at h
 ·rename_i e
  obtain⟨q,h1,h2⟩:=Option.map_eq_some_iff.mp h;cases h2;refine⟨?_,e.1,e.2⟩;rw[Y7,←iJ h1,List.takeWhile_append_dropWhile]
 ·cases h
theorem HJ{s r:List Nat}{t:Th}(h:U9 s=some (t,r)):s=t.tx++r/\t.Wf/\t.dp=1:=by
 unfold U9 at h;split at h
 ·rename_i e
  cases h;refine⟨?_,e,rfl⟩;show s=(sL (s.takeWhile G5)).cps.toList++_;rw[Y7,List.takeWhile_append_dropWhile]
 ·split at h
  ·rename_i _ e
   cases h;obtain⟨n,hn,hz,hi⟩:=dX e;rw[hi];refine⟨?_,hn,rfl⟩;show s=(nT n).cps.toList++_;rw[←hz,Y7,List.takeWhile_append_dropWhile]
  ·cases h
theorem xH{d:Nat}{rd:List Nat->Option (Th×List Nat)}(hs:nF d rd):∀(n:Nat)(s r:List Nat)(l:Ts),M7 rd n s=some (l,r)->s=l.txR false++93::r/\l.WfR/\l.dp<=d
 |0,s,r,l,h=>by cases h
 |n+1,s,r,l,h=>by
  unfold M7 at h;split at h
  ·rename_i q e
   obtain⟨p,h1,h2⟩:=Option.bind_eq_some_iff.mp h;obtain⟨q',h3,h4⟩:=Option.map_eq_some_iff.mp h2;cases h4;obtain⟨a1,a2,a3⟩:=hs _ _ _ h1;obtain⟨b1,b2,b3⟩:=xH hs n _ _ _ h3;refine⟨?_,⟨rfl,a2,b2⟩,by show max _ _<=d;omega⟩;rw[iJ e,a1,b1];show _=([44,32]++(p.1.tx++q'.1.txR false))++93::q'.2;simp
  ·obtain⟨q,h1,h2⟩:=Option.map_eq_some_iff.mp h
   cases h2;exact⟨Y8 h1,trivial,zero_le _⟩
theorem xI{d:Nat}{rd:List Nat->Option (Th×List Nat)}(hs:nF d rd):∀(n:Nat)(last:Str)(s r:List Nat)(l:Ts),M0 rd n last s=some (l,r)->s=l.txD false++125::r/\l.WfD last/\l.dp<=d
 |0,last,s,r,l,h=>by cases h
 |n+1,last,s,r,l,h=>by
  unfold M0 at h;split at h
  ·rename_i q e
   obtain⟨f,h0,h⟩:=Option.bind_eq_some_iff.mp h;obtain⟨p,h1,h2⟩:=Option.bind_eq_some_iff.mp h;obtain⟨q',h3,h4⟩:=Option.map_eq_some_iff.mp h2;cases h4;obtain⟨f1,f2,f3⟩:=nG h0;obtain⟨a1,a2,a3⟩:=hs _ _ _ h1;obtain⟨b1,b2,b3⟩:=xI hs n _ _ _ _ h3;refine⟨?_,⟨f2,f3,a2,b2⟩,by show max _ _<=d;omega⟩;rw[iJ e,f1,a1,b1];show _=([44,32]++(f.1.cps.toList++58::32::(p.1.tx++q'.1.txD false)))++125::q'.2;simp
  ·obtain⟨q,h1,h2⟩:=Option.map_eq_some_iff.mp h
   cases h2;exact⟨Y8 h1,trivial,zero_le _⟩
theorem nH:∀d,nF d (B7 d)
 |0=>λs t r h=>by cases h
 |d+1=>λs t r h=>by
  have hs:=nH d;unfold B7 at h;split at h
  ·rename_i q e
   rw[Y8 e];unfold R1 at h;split at h
   ·rename_i q2 e2
    cases h;rw[Y8 e2];exact⟨rfl,trivial,by show 1<=d+1;omega⟩
   ·obtain⟨p,h1,h2⟩:=Option.bind_eq_some_iff.mp h
    obtain⟨q',h3,h4⟩:=Option.map_eq_some_iff.mp h2;cases h4;obtain⟨a1,a2,a3⟩:=hs _ _ _ h1;obtain⟨b1,b2,b3⟩:=xH hs _ _ _ _ h3;refine⟨?_,⟨rfl,a2,b2⟩,by show max _ _+1<=d+1;omega⟩;rw[a1,b1];show _=91::(([]++(p.1.tx++q'.1.txR false))++[93])++q'.2;simp
  ·split at h
   ·rename_i q e
    rw[Y8 e];unfold O9 at h;split at h
    ·rename_i q2 e2
     cases h;rw[Y8 e2];exact⟨rfl,trivial,by show 1<=d+1;omega⟩
    ·obtain⟨f,h0,h⟩:=Option.bind_eq_some_iff.mp h
     obtain⟨p,h1,h2⟩:=Option.bind_eq_some_iff.mp h;obtain⟨q',h3,h4⟩:=Option.map_eq_some_iff.mp h2;cases h4;obtain⟨f1,f2,f3⟩:=nG h0;obtain⟨a1,a2,a3⟩:=hs _ _ _ h1;obtain⟨b1,b2,b3⟩:=xI hs _ _ _ _ _ h3;refine⟨?_,⟨f2,f3,a2,b2⟩,by show max _ _+1<=d+1;omega⟩;rw[f1,a1,b1];show _=123::(([]++(f.1.cps.toList++58::32::(p.1.tx++q'.1.txD false)))++[125])++q'.2;simp
   ·obtain⟨a1,a2,a3⟩:=HJ h
    exact⟨a1,a2,!1⟩
def eB(r:List Nat):Prop:=∀c q,r=c::q->G5 c=false
theorem iK{p:Nat->Bool}:∀{u r:List Nat},(∀c∈u,p c=true)->(∀c q,r=c::q->p c=false)->(u++r).takeWhile p=u/\(u++r).dropWhile p=r
 |[],r,_,h=>by
  cases r with
  |nil=>exact⟨rfl,rfl⟩
  |cons c q=>
   have:=h c q rfl;exact⟨by rw[nil_append,List.takeWhile_cons,this];rfl,by rw[nil_append,List.dropWhile_cons,this];rfl⟩
 |c::u,r,hu,h=>by
  have ih:=iK (u:=u) (r:=r) (λd hd=>hu d (mem_cons_of_mem _ hd)) h;have hc:=hu c mem_cons_self;refine⟨?_,?_⟩
  ·rw[cons_append,List.takeWhile_cons,hc,if_pos rfl,ih.1]
  ·rw[cons_append,List.dropWhile_cons,hc,if_pos rfl,ih.2]
theorem V0{z:Str}(h:C7 z=true):1<=z.cps.toList.length/\∀c∈z.cps.toList,K0 c=true:=by
 unfold C7 at h;simp only[Bool.and_eq_true,decide_eq_true_eq,all_eq_true]at h;exact⟨by rw[←A8];exact h.1.1,h.2⟩
theorem eC{i:Int}(h:i.natAbs<10^60):1<=(nT i).cps.toList.length/\(∀c∈(nT i).cps.toList,G5 c=true)/\C7 (nT i)=false:=by
 have fg:∀m:Nat,∀c∈dg m,E1 c=true:=λm c hc=>all_eq_true.mp (Y4.mpr (O8 m)) c hc
 have at_:∀c,E1 c=true->G5 c=true:=λc h=>by unfold G5;rw[h];simp
 have nl:∀c,E1 c=true∨c=45->K0 c=false:=λc h=>by
  unfold K0;have:c<=57:=by
   rcases h with h|rfl
   ·unfold E1 at h
    simp only[Bool.and_eq_true,decide_eq_true_eq]at h;omega
   ·decide
  rw[decide_eq_false (show ¬97<=c by omega)];rfl
 have no:∀{z:Str}{c:Nat}{q:List Nat},z.cps.toList=c::q->E1 c=true∨c=45->C7 z=false:=λ{z c q} e hc=>by
  refine Bool.eq_false_iff.mpr λhn=>?_
  have:=(V0 hn).2 c (by rw[e];exact mem_cons_self);rw[nl c hc]at this;cases this
 rcases Int.eq_nat_or_neg i with⟨m,rfl|rfl⟩
 ·have hm:m<10^(59+1):=by simpa using h
  have hl:=(Y3 59 m hm).1;rw[P5];refine⟨hl,λc hc=>at_ c (fg m c hc),?_⟩;cases e:dg m with
  |nil=>rw[e]at hl;cases hl
  |cons c q=>exact no (by rw[P5,e]) (.inl (fg m c (by rw[e];exact mem_cons_self)))
 ·cases m with
  |zero=>
   have e0:(nT (-((0:Nat):Int))).cps.toList=dg 0:=P5 0;rw[e0];have hl:=(Y3 59 0 (!3)).1;refine⟨hl,λc hc=>at_ c (fg 0 c hc),?_⟩;cases e:dg 0 with
   |nil=>rw[e]at hl;cases hl
   |cons c q=>exact no (by rw[e0,e]) (.inl (fg 0 c (by rw[e];exact mem_cons_self)))
  |succ m=>
   rw[bW];refine⟨by rw[length_cons];omega,λc hc=>?_,no (bW m) (.inr rfl)⟩;rcases mem_cons.mp hc with rfl|hc
   ·decide
   ·exact at_ c (fg _ c hc)
theorem eD{c:Nat}(h:K0 c=true):G5 c=true:=by unfold G5;rw[h];rfl
theorem eE{t:Th}(h:t.Wf):∃c q,t.tx=c::q/\(c=91∨c=123∨G5 c=true):=by
 cases t with
 |row l=>exact⟨91,_,rfl,.inl rfl⟩
 |dic l=>exact⟨123,_,rfl,.inr (.inl rfl)⟩
 |num i=>
  obtain⟨h1,h2,_⟩:=eC h;show ∃c q,(nT i).cps.toList=c::q/\_
  cases e:(nT i).cps.toList with
  |nil=>rw[e]at h1;cases h1
  |cons c q=>exact⟨c,q,rfl,.inr (.inr (h2 c (by rw[e];exact mem_cons_self)))⟩
 |word x=>
  obtain⟨h1,h2⟩:=V0 h;show ∃c q,x.cps.toList=c::q/\_
  cases e:x.cps.toList with
  |nil=>rw[e]at h1;cases h1
  |cons c q=>exact⟨c,q,rfl,.inr (.inr (eD (h2 c (by rw[e];exact mem_cons_self))))⟩
theorem HK{t:Th}(h:t.Wf){a:Nat}(ha:a=93∨a=125)(r:List Nat):L9 a (t.tx++r)=none:=by
 obtain⟨c,q,e,hc⟩:=eE h;rw[e];refine Z0 _ λe'=>?_
 subst e';rcases ha with rfl|rfl<;>rcases hc with hc|hc|hc<;>first|(cases hc;done)|(revert hc;decide)
theorem iL{c:Nat}{q:List Nat}(h:G5 c=false):eB (c::q):=λd q' e=>by cases e;exact h
theorem xJ{last k:Str}{r:List Nat}(h1:C7 k=true)(h2:C3 last k=true):P6 last (k.cps.toList++58::32::r)=some (k,r):=by
 obtain⟨e1,e2⟩:=iK (p:=K0) (u:=k.cps.toList) (r:=58::32::r) (V0 h1).2 λc q e=>by cases e;decide
 unfold P6;rw[e1,e2,O0,if_pos ⟨h1,h2⟩,nE];rfl
theorem xK{t:Th}(h:t.Wf)(ha:(∃i,t=.num i)∨∃x,t=.word x){r:List Nat}(hr:eB r):U9 (t.tx++r)=some (t,r):=by
 rcases ha with⟨i,rfl⟩|⟨x,rfl⟩
 ·have h:i.natAbs<10^60:=h
  obtain⟨h1,h2,h3⟩:=eC h;obtain⟨e1,e2⟩:=iK (p:=G5) (u:=(nT i).cps.toList) h2 hr;unfold U9;show(if C7 (sL (((nT i).cps.toList++r).takeWhile G5))=true then _ else _)=_;rw[show(Th.num i).tx=(nT i).cps.toList from rfl,e1,e2,O0,h3,mZ h];rw[if_neg (!2),if_pos rfl,(iG h).1];rfl
 ·have h:C7 x=true:=h
  obtain⟨e1,e2⟩:=iK (p:=G5) (u:=x.cps.toList) (λc hc=>eD ((V0 h).2 c hc)) hr;unfold U9;rw[show(Th.word x).tx=x.cps.toList from rfl,e1,e2,O0,if_pos h]
def nI(d:Nat)(rd:List Nat->Option (Th×List Nat)):Prop:=∀t r,t.Wf->t.dp<=d->eB r->rd (t.tx++r)=some (t,r)
theorem xL{a:Nat}(ha:G5 a=false)(r:List Nat):∀l:Ts,eB (l.txR false++a::r)
 |.nil=>iL ha
 |.cons k t l=>iL (c:=44) (!3)
theorem xM{a:Nat}(ha:G5 a=false)(r:List Nat):∀l:Ts,eB (l.txD false++a::r)
 |.nil=>iL ha
 |.cons k t l=>iL (c:=44) (!3)
theorem xN:∀l:Ts,l.len<=(l.txR false).length
 |.nil=>le_refl _
 |.cons k t l=>by
  have:=xN l;show l.len+1<=([44,32]++(t.tx++l.txR false)).length;rw[length_append,length_append];show l.len+1<=2+_;omega
theorem xO:∀l:Ts,l.len<=(l.txD false).length
 |.nil=>le_refl _
 |.cons k t l=>by
  have:=xO l;show l.len+1<=([44,32]++(k.cps.toList++58::32::(t.tx++l.txD false))).length;simp only[length_append,length_cons,List.length_nil];omega
theorem xP{d:Nat}{rd:List Nat->Option (Th×List Nat)}(hc:nI d rd):∀(l:Ts)(n:Nat)(r:List Nat),l.WfR->l.dp<=d->l.len<n->M7 rd n (l.txR false++93::r)=some (l,r)
 |.nil,n+1,r,_,_,_=>by
  unfold M7;rw[show Ts.nil.txR false++93::r=93::r from rfl,xG r (!3)];show(L9 93 (93::r)).map _=_;rw[Y9];rfl
 |.cons k t l,n+1,r,h,hd,hn=>by
  obtain⟨rfl,h1,h2⟩:=h;have hd:max t.dp l.dp<=d:=hd;have hn:l.len+1<n+1:=hn;have e:(Ts.cons Str.empty t l).txR false++93::r=44::32::(t.tx++(l.txR false++93::r)):=by
   show([44,32]++(t.tx++l.txR false))++93::r=_;simp
  rw[e];unfold M7;rw[nE];show(rd (t.tx++(l.txR false++93::r))).bind _=_;rw[hc t _ h1 (!1) (xL (!3) r l)];show(M7 rd n (l.txR false++93::r)).map _=_;rw[xP hc l n r h2 (!1) (!1)];rfl
theorem xQ{d:Nat}{rd:List Nat->Option (Th×List Nat)}(hc:nI d rd):∀(l:Ts)(n:Nat)(last:Str)(r:List Nat),l.WfD last->l.dp<=d->l.len<n->M0 rd n last (l.txD false++125::r)=some (l,r)
 |.nil,n+1,last,r,_,_,_=>by
  unfold M0;rw[show Ts.nil.txD false++125::r=125::r from rfl,xG r (!3)];show(L9 125 (125::r)).map _=_;rw[Y9];rfl
 |.cons k t l,n+1,last,r,h,hd,hn=>by
  obtain⟨g1,g2,h1,h2⟩:=h;have hd:max t.dp l.dp<=d:=hd;have hn:l.len+1<n+1:=hn;have e:(Ts.cons k t l).txD false++125::r=44::32::(k.cps.toList++58::32::(t.tx++(l.txD false++125::r))):=by
   show([44,32]++(k.cps.toList++58::32::(t.tx++l.txD false)))++125::r=_;simp
  rw[e];unfold M0;rw[nE];show(P6 last (k.cps.toList++58::32::(t.tx++(l.txD false++125::r)))).bind _=_;rw[xJ g1 g2];show(rd (t.tx++(l.txD false++125::r))).bind _=_;rw[hc t _ h1 (!1) (xM (!3) r l)];show(M0 rd n k (l.txD false++125::r)).map _=_;rw[xQ hc l n k r h2 (!1) (!1)];rfl
theorem xR:∀d,nI d (B7 d)
 |0=>λt r h hd _=>by cases t<;>(have:_<=0:=hd;unfold Th.dp at this;omega)
 |d+1=>λt r h hd hr=>by
  have hc:=xR d;cases t with
  |num i=>
   obtain⟨c,q,e,hcc⟩:=eE h;have ha:=xK h (.inl ⟨i,rfl⟩) hr;have h1:=(eC h).2.1 c (by rw[show(nT i).cps.toList=(Th.num i).tx from rfl,e];exact mem_cons_self);rw[e]at ha ⊢;unfold B7;rw[cons_append,Z0 _ (λz=>by rw[z]at h1;revert h1;decide),Z0 _ (λz=>by rw[z]at h1;revert h1;decide)];exact ha
  |word x=>
   obtain⟨c,q,e,hcc⟩:=eE h;have ha:=xK h (.inr ⟨x,rfl⟩) hr;have h1:=eD ((V0 h).2 c (by rw[show x.cps.toList=(Th.word x).tx from rfl,e];exact mem_cons_self));rw[e]at ha ⊢;unfold B7;rw[cons_append,Z0 _ (λz=>by rw[z]at h1;revert h1;decide),Z0 _ (λz=>by rw[z]at h1;revert h1;decide)];exact ha
  |row l=>
   unfold B7;rw[show(Th.row l).tx++r=91::(l.txR true++93::r) by show 91::(l.txR true++[93])++r=_;simp,Y9];show R1 (B7 d) (l.txR true++93::r)=_;unfold R1;cases l with
   |nil=>
    rw[show Ts.nil.txR true++93::r=93::r from rfl,Y9]
   |cons k t l=>
    obtain⟨rfl,h1,h2⟩:=(h:k=Str.empty/\t.Wf/\l.WfR);have hd:max t.dp l.dp+1<=d+1:=hd;rw[show(Ts.cons Str.empty t l).txR true++93::r=t.tx++(l.txR false++93::r) by show([]++(t.tx++l.txR false))++93::r=_;simp];rw[HK h1 (.inl rfl)];show(B7 d (t.tx++(l.txR false++93::r))).bind _=_;rw[hc t _ h1 (!1) (xL (!3) r l)];show(M7 (B7 d) ((l.txR false++93::r).length+1) (l.txR false++93::r)).map _=_;rw[xP hc l _ r h2 (!1) (by have:=xN l;rw[length_append];omega)];rfl
  |dic l=>
   unfold B7;rw[show(Th.dic l).tx++r=123::(l.txD true++125::r) by show 123::(l.txD true++[125])++r=_;simp,Z0 _ (!3),Y9];show O9 (B7 d) (l.txD true++125::r)=_;unfold O9;cases l with
   |nil=>
    rw[show Ts.nil.txD true++125::r=125::r from rfl,Y9]
   |cons k t l=>
    obtain⟨g1,g2,h1,h2⟩:=(h:C7 k=true/\C3 Str.empty k=true/\t.Wf/\l.WfD k);have hd:max t.dp l.dp+1<=d+1:=hd;rw[show(Ts.cons k t l).txD true++125::r=k.cps.toList++58::32::(t.tx++(l.txD false++125::r)) by show([]++(k.cps.toList++58::32::(t.tx++l.txD false)))++125::r=_;simp];have hp:L9 125 (k.cps.toList++58::32::(t.tx++(l.txD false++125::r)))=none:=by
     obtain⟨n1,n2⟩:=V0 g1;cases e:k.cps.toList with
     |nil=>rw[e]at n1;cases n1
     |cons c q=>exact Z0 _ (λz=>by have:=n2 c (by rw[e];exact mem_cons_self);rw[z]at this;revert this;decide)
    rw[hp];show(P6 Str.empty (k.cps.toList++58::32::(t.tx++(l.txD false++125::r)))).bind _=_;rw[xJ g1 g2];show(B7 d (t.tx++(l.txD false++125::r))).bind _=_;rw[hc t _ h1 (!1) (xM (!3) r l)];show(M0 (B7 d) ((l.txD false++125::r).length+1) k (l.txD false++125::r)).map _=_;rw[xQ hc l _ k r h2 (!1) (by have:=xO l;rw[length_append];omega)];rfl
theorem nJ(d:Nat)(s:List Nat)(t:Th):B7 d s=some (t,[])↔s=t.tx/\t.Wf/\t.dp<=d:=by
 constructor
 ·intro h
  obtain⟨h1,h2,h3⟩:=nH d _ _ _ h;exact⟨by rw[h1,append_nil],h2,h3⟩
 ·rintro ⟨rfl,h2,h3⟩
  have:=xR d t [] h2 h3 (λc q e=>by cases e);rw[append_nil]at this;exact this
end Rg
namespace Rg
open PySem PySem.W PySem.Spec PyProof.Rows L2 Builtin.Str
theorem HL(x:Str)(a b k:Nat):StrLaws.At x ⟨#[a,b]⟩ x.length k↔x.cps.toList[k]?=some a/\x.cps.toList[k+1]?=some b:=by
 have hl:x.length=x.cps.toList.length:=A8 x;unfold StrLaws.At;rw[StrLaws.subAt_eq];show k+2<=x.length/\((x.cps.toList.drop k).take 2==[a,b])=true↔_;rw[hl];generalize x.cps.toList=l;constructor
 ·rintro ⟨h1,h2⟩
  rw[beq_iff_eq]at h2;have e:∀i,i<2->l[k+i]?=[a,b][i]?:=λi hi=>by
   rw[←h2,List.getElem?_take_of_lt hi,List.getElem?_drop]
  exact⟨e 0 (!3),e 1 (!3)⟩
 ·rintro ⟨h1,h2⟩
  have h3:=(List.getElem?_eq_some_iff.mp h2).1;refine⟨!1,?_⟩;rw[beq_iff_eq];have e1:l.drop k=a::b::l.drop (k+2):=by
   rw[drop_eq_getElem_cons (!1),drop_eq_getElem_cons (!1)];obtain⟨q1,e1⟩:=List.getElem?_eq_some_iff.mp h1;obtain⟨q2,e2⟩:=List.getElem?_eq_some_iff.mp h2;rw[e1,e2]
  rw[e1];rfl
def iM(a b:Nat)(p:Str):Prop:=∀j,¬(p.cps.toList[j]?=some a/\p.cps.toList[j+1]?=some b)
theorem nK(x:Str)(a b i e:Nat)(he:e<=x.length)(hn:∀k,i<=k->k<e->¬StrLaws.At x ⟨#[a,b]⟩ x.length k):iM a b (strSub x i e):=by
 rintro j ⟨h1,h2⟩;rw[StrLaws.strSub_toList]at h1 h2;have hlt:j+1<e-i:=by
  have h1:j+1<((x.cps.toList.drop i).take (e-i)).length:=(List.getElem?_eq_some_iff.mp h2).1;simp at h1;omega
 rw[List.getElem?_take_of_lt (!1),List.getElem?_drop]at h1;rw[List.getElem?_take_of_lt hlt,List.getElem?_drop]at h2;exact hn (i+j) (!1) (!1) ((HL x a b (i+j)).mpr ⟨h1,h2⟩)
theorem xS(x:Str)(a b:Nat):∀(cuts:List Nat)(i f:Nat),StrLaws.ChainG x ⟨#[a,b]⟩ x.length i cuts f->(∀k,f<=k->¬StrLaws.At x ⟨#[a,b]⟩ x.length k)->∀p∈StrLaws.partsFrom x (⟨#[a,b]⟩:Str).length i cuts,iM a b p
 |[],i,f,h,hn,p,hp=>by
  have e:f=i:=h;subst e;rw[mem_singleton.mp hp];exact nK x a b f x.length (le_refl _) λk h1 _=>hn k h1
 |d::r,i,f,h,hn,p,hp=>by
  rcases mem_cons.mp hp with rfl|hp'
  ·exact nK x a b i d (by have:=h.2.1.1;omega) h.2.2.1
  ·exact xS x a b r _ f h.2.2.2 hn p hp'
theorem HM(x:Str){a b:Nat}(ha:a<256)(hb:b<256):∀p∈Txt.split x ⟨#[a,b]⟩,iM a b p:=by
 obtain⟨f,hG,hn⟩:=StrLaws.occ_tight x ⟨#[a,b]⟩ (by show 1<=2;decide);unfold Txt.split;split
 ·rename_i hc
  intro p hp;rw[mem_singleton.mp hp];rintro j ⟨h1,h2⟩;have h3:=(List.getElem?_eq_some_iff.mp h2).1;rw[←A8]at h3;rw[Bool.or_eq_true,decide_eq_true_eq,decide_eq_true_eq]at hc;rcases hc with h|h
  ·have:x.length<2:=h
   omega
  ·have k1:(#[a,b]:Array Nat).all (· < 256)=true:=by simp[ha,hb]
   have e:Builtin.Str.strKind ⟨#[a,b]⟩=1:=by unfold Builtin.Str.strKind;rw[if_pos k1]
   rw[e]at h;unfold Builtin.Str.strKind at h;split at h
   ·omega
   ·split at h<;>omega
 ·split
  ·rename_i he
   intro p hp;rw[mem_singleton.mp hp];have e0:occurrences x ⟨#[a,b]⟩ 0 x.length (x.length+1)=[]:=List.isEmpty_iff.mp he;rw[e0]at hG;have ef:f=0:=hG;subst ef;rw[←StrLaws.sub_whole x];exact nK x a b 0 x.length (le_refl _) λk h1 _=>hn k h1
  ·rw[StrLaws.partsBetween_eq]
   exact xS x a b _ 0 f hG hn
def J6(a b:Nat):List Str->List Nat
 |[]=>[]
 |[w]=>w.cps.toList
 |w::v::r=>w.cps.toList++a::b::J6 a b (v::r)
theorem iN(a b:Nat):∀ws:List Str,(Str.join ⟨#[a,b]⟩ ws).cps.toList=J6 a b ws
 |[]=>rfl
 |[w]=>rfl
 |w::v::r=>by
  show(w++(⟨#[a,b]⟩:Str)++Str.join ⟨#[a,b]⟩ (v::r)).cps.toList=_;rw[PyProof.Rows.cps_toList_append,PyProof.Rows.cps_toList_append,iN a b (v::r)];show _++[a,b]++_=_++a::b::_;rw[append_assoc];rfl
theorem xT{a b:Nat}(hab:a≠b):∀{w u r s:List Nat},a∉w->(∀j,¬(u[j]?=some a/\u[j+1]?=some b))->w++a::b::r=u++a::b::s->w=u/\r=s
 |[],[],_,_,_,_,e=>⟨rfl,by simpa using e⟩
 |[],[y],r,s,_,_,e=>by
  have e:a::b::r=y::a::b::s:=e;simp only[List.cons.injEq]at e;exact absurd e.2.1.symm hab
 |[],y::z::u,r,s,_,hu,e=>by
  have e:a::b::r=y::z::(u++a::b::s):=e;simp only[List.cons.injEq]at e;exact absurd ⟨by rw[←e.1];rfl,by rw[←e.2.1];rfl⟩ (hu 0)
 |x::w,[],r,s,hw,_,e=>by
  have e:x::(w++a::b::r)=a::b::s:=e;simp only[List.cons.injEq]at e;exact absurd (by rw[←e.1];exact mem_cons_self) hw
 |x::w,y::u,r,s,hw,hu,e=>by
  obtain⟨e1,e2⟩:=List.cons.inj (show x::(w++a::b::r)=y::(u++a::b::s)from e);obtain⟨h1,h2⟩:=xT hab (λh=>hw (mem_cons_of_mem _ h)) (λj h=>hu (j+1) h) e2;exact⟨by rw[e1,h1],h2⟩
theorem HN{a b:Nat}:∀(w r:List Nat),(w++a::b::r)[w.length]?=some a/\(w++a::b::r)[w.length+1]?=some b:=λw r=>by
 refine⟨?_,?_⟩
 ·rw[getElem?_append_right (le_refl _),Nat.sub_self];rfl
 ·rw[getElem?_append_right (!1),add_sub_cancel_left];rfl
theorem xU{a b:Nat}(hab:a≠b):∀{ws us:List Str},ws≠[]->us≠[]->(∀w∈ws,a∉w.cps.toList)->(∀u∈us,iM a b u)->J6 a b ws=J6 a b us->ws=us
 |[],_,h,_,_,_,_=>absurd rfl h
 |_,[],_,h,_,_,_=>absurd rfl h
 |[x],[y],_,_,_,_,e=>by rw[Q9 (show x.cps.toList=y.cps.toList from e)]
 |[x],y::v::r,_,_,hx,_,e=>absurd (by rw[show x.cps.toList=y.cps.toList++a::b::J6 a b (v::r)from e];simp) (hx x mem_cons_self)
 |x::v::r,[y],_,_,_,hy,e=>by
  have e:x.cps.toList++a::b::J6 a b (v::r)=y.cps.toList:=e;have:=hy y mem_cons_self x.cps.toList.length;rw[←e]at this;exact absurd (HN _ _) this
 |x::v::r,y::u::s,_,_,hx,hy,e=>by
  obtain⟨h1,h2⟩:=xT hab (hx x mem_cons_self) (hy y mem_cons_self) (show x.cps.toList++a::b::J6 a b (v::r)=y.cps.toList++a::b::J6 a b (u::s)from e);rw[Q9 h1,xU hab (!2) (!2) (λw hw=>hx w (mem_cons_of_mem _ hw)) (λw hw=>hy w (mem_cons_of_mem _ hw)) h2]
theorem xV(x y:Str):Txt.split x y≠[]:=λe=>by
 have:=(PyProof.Rows.fact_split x y).1;rw[e]at this;cases this
theorem xW{a b:Nat}(hab:a≠b)(ha:a<256)(hb:b<256){ws:List Str}(hne:ws≠[])(h:∀w∈ws,a∉w.cps.toList){z:Str}(hz:z.cps.toList=J6 a b ws):Txt.split z ⟨#[a,b]⟩=ws:=by
 refine(xU hab hne (xV _ _) h (HM z ha hb) ?_).symm;rw[←hz,←iN,StrLaws.join_split]
theorem iO(a b:Nat)(z:Str):J6 a b (Txt.split z ⟨#[a,b]⟩)=z.cps.toList:=by rw[←iN,StrLaws.join_split]
end Rg
namespace Rg
open PySem L2
mutual
inductive Tr where
 |lf (w:List Nat)
 |nd (b:Bool) (l:Trs)
inductive Trs where
 |nil
 |cons (k:List Nat) (t:Tr) (r:Trs)
end
def G1(b:Bool):Nat:=if b then 123 else 91
def cls(b:Bool):Nat:=if b then 125 else 93
def D1(f:Bool):List Nat:=if f then[]else[44,32]
def M1(b:Bool)(k:List Nat):List Nat:=if b then k++[58,32]else[]
mutual
def Tr.tx:Tr->List Nat
 |.lf w=>w
 |.nd b l=>G1 b::(l.tx b true++[cls b])
def Trs.tx:Trs->Bool->Bool->List Nat
 |.nil,_,_=>[]
 |.cons k t r,b,f=>D1 f++(M1 b k++(t.tx++r.tx b false))
end
abbrev Iv:=List Nat->Option (Nat×Nat)
def M8(b:Bool)(last k:List Nat):Bool:=if b then C7 (sL k)&&C3 (sL last) (sL k)else k.isEmpty
mutual
def Tr.val(I:Iv):Tr->Option (Nat×Nat)
 |.lf w=>I w
 |.nd b l=>(l.val I b []).map λp=>(p.1+1,p.2+1)
def Trs.val(I:Iv):Trs->Bool->List Nat->Option (Nat×Nat)
 |.nil,_,_=>some (0,0)
 |.cons k t r,b,last=>if M8 b last k=true then(t.val I).bind λp=>(r.val I b k).map λq=>(p.1+q.1,max p.2 q.2)else none
end
def B8(k:Nat):List Nat:=35::(dg k++[59])
theorem nL{j k:Nat}(h:dg j=dg k):j=k:=by
 have e1:=P5 j;have e2:=P5 k;rw[h,←e2]at e1;have e3:=Q9 e1;have e4:toString ((j:Nat):Int)=toString ((k:Nat):Int):=by
  have:=congrArg (λz:Str=>z.cps.toList) e3;have a1:∀n:Int,(nT n).cps.toList=(toString n).toList.map Char.toNat:=λn=>PyProof.Rows.signs_ofString _
  rw[a1,a1]at this;have inj:∀{l m:List Char},l.map Char.toNat=m.map Char.toNat->l=m:=λ{l m} h=>by
   refine List.map_inj_right (f:=Char.toNat) (λa b h=>?_) |>.mp h
   exact Char.ext (UInt32.toNat_inj.mp h)
  exact String.toList_inj.mp (inj this)
 have:=Int.repr_inj.mp e4;omega
theorem aJ{k c:Nat}(h:c∈dg k):48<=c/\c<=57:=by
 have:=all_eq_true.mp (Y4.mpr (O8 k)) c h;unfold E1 at this;simpa using this
theorem xX{j k:Nat}(h:B8 j=B8 k):j=k:=nL (List.append_cancel_right (List.cons.inj h).2)
inductive Tk where
 |sg (c:Nat)
 |mk (k:Nat)
def Tk.tx:Tk->List Nat
 |.sg c=>[c]
 |.mk k=>B8 k
def Tk.Ok(m:Nat):Tk->Prop
 |.sg c=>c≠35/\c≠59
 |.mk k=>k<m
def C4(ts:List Tk):List Nat:=ts.flatMap Tk.tx
theorem xY:C4 []=[]:=rfl
theorem P0(t:Tk)(ts:List Tk):C4 (t::ts)=t.tx++C4 ts:=by unfold C4;rw[flatMap_cons]
theorem bZ(ts us:List Tk):C4 (ts++us)=C4 ts++C4 us:=by unfold C4;rw[flatMap_append]
theorem eF:∀w:List Nat,C4 (w.map .sg)=w
 |[]=>rfl
 |c::w=>by rw[map_cons,P0,eF w];rfl
theorem xZ{m:Nat}:∀{ts us:List Tk},(∀t∈ts,t.Ok m)->(∀t∈us,t.Ok m)->C4 ts=C4 us->ts=us
 |[],[],_,_,_=>rfl
 |[],u::us,_,_,h=>by cases u<;>(rw[P0]at h;cases h)
 |t::ts,[],_,_,h=>by cases t<;>(rw[P0]at h;cases h)
 |t::ts,u::us,ht,hu,h=>by
  have t1:=ht t mem_cons_self;have u1:=hu u mem_cons_self;have ih:=λh=>xZ (ts:=ts) (us:=us) (λx hx=>ht x (mem_cons_of_mem _ hx)) (λx hx=>hu x (mem_cons_of_mem _ hx)) h
  rw[P0,P0]at h;cases t with
  |sg c=>
   cases u with
   |sg d=>
    obtain⟨e1,e2⟩:=List.cons.inj (show c::C4 ts=d::C4 us from h);rw[e1,ih e2]
   |mk k=>
    have e:=(List.cons.inj (show c::C4 ts=35::((dg k++[59])++C4 us)from h)).1;exact absurd e t1.1
  |mk j=>
   cases u with
   |sg d=>
    have e:=(List.cons.inj (show 35::((dg j++[59])++C4 ts)=d::C4 us from h)).1;exact absurd e.symm u1.1
   |mk k=>
    have e:=(List.cons.inj (show 35::((dg j++[59])++C4 ts)=35::((dg k++[59])++C4 us)from h)).2;rw[append_assoc,append_assoc]at e;have no:∀k,59∉dg k:=λk h=>by have:=aJ h;omega
    obtain⟨e1,e2⟩:=nD (no j) (no k) (show dg j++59::C4 ts=dg k++59::C4 us from e);rw[nL e1,ih e2]
noncomputable def Z1(w:List Nat):List Tk:=open Classical in if h:∃k,w=B8 k then[.mk h.choose]else w.map .sg
theorem iP(k:Nat):Z1 (B8 k)=[.mk k]:=by
 have h:∃j,B8 k=B8 j:=⟨k,rfl⟩
 unfold Z1;rw[dif_pos h,←xX h.choose_spec]
theorem nM{w:List Nat}(h:¬∃k,w=B8 k):Z1 w=w.map .sg:=by unfold Z1;rw[dif_neg h]
theorem HP(w:List Nat):C4 (Z1 w)=w:=by
 by_cases h:∃k,w=B8 k
 ·obtain⟨k,rfl⟩:=h
  rw[iP,P0];show B8 k++[]=_;rw[append_nil]
 ·rw[nM h,eF]
mutual
noncomputable def Tr.tk:Tr->List Tk
 |.lf w=>Z1 w
 |.nd b l=>.sg (G1 b)::(l.tk b true++[.sg (cls b)])
noncomputable def Trs.tk:Trs->Bool->Bool->List Tk
 |.nil,_,_=>[]
 |.cons k t r,b,f=>(D1 f).map .sg++((M1 b k).map .sg++(t.tk++r.tk b false))
end
mutual
theorem nO:∀t:Tr,C4 t.tk=t.tx
 |.lf w=>HP w
 |.nd b l=>by
  show C4 (.sg (G1 b)::(l.tk b true++[.sg (cls b)]))=_;rw[P0,bZ,yA l b true];rfl
theorem yA:∀(l:Trs)(b f:Bool),C4 (l.tk b f)=l.tx b f
 |.nil,_,_=>rfl
 |.cons k t r,b,f=>by
  show C4 ((D1 f).map .sg++((M1 b k).map .sg++(t.tk++r.tk b false)))=_;rw[bZ,bZ,bZ,eF,eF,nO t,yA r b false];rfl
end
def iQ(m:Nat)(I:Iv):Prop:=∀w p,I w=some p->(∃k,k<m/\w=B8 k)∨∀c∈w,c≠35/\c≠59
theorem iR{k:List Nat}(h:C7 (sL k)=true):∀c∈k,97<=c/\c<=122:=λc hc=>by
 have:=(V0 h).2 c hc;unfold K0 at this;simpa using this
mutual
theorem nQ{m:Nat}{I:Iv}(hI:iQ m I):∀(t:Tr){p:Nat×Nat},t.val I=some p->∀x∈t.tk,x.Ok m
 |.lf w,p,h,x,hx=>by
  have hx:x∈Z1 w:=hx;rcases hI w p h with⟨k,hk,rfl⟩|hw
  ·rw[iP]at hx
   rw[mem_singleton.mp hx];exact hk
  ·have no:¬∃k,w=B8 k:=λ⟨k,e⟩=>(hw 35 (by rw[e];exact mem_cons_self)).1 rfl
   rw[nM no]at hx;obtain⟨c,hc,rfl⟩:=mem_map.mp hx;exact hw c hc
 |.nd b l,p,h,x,hx=>by
  obtain⟨q,hq,_⟩:=Option.map_eq_some_iff.mp (show(l.val I b []).map _=some p from h);rcases mem_cons.mp (show x∈.sg (G1 b)::(l.tk b true++[.sg (cls b)])from hx)with rfl|hx
  ·cases b<;>exact⟨!3,!3⟩
  ·rcases mem_append.mp hx with hx|hx
   ·exact yB hI l b true hq x hx
   ·rw[mem_singleton.mp hx]
    cases b<;>exact⟨!3,!3⟩
theorem yB{m:Nat}{I:Iv}(hI:iQ m I):∀(l:Trs)(b f:Bool){last:List Nat}{p:Nat×Nat},l.val I b last=some p->∀x∈l.tk b f,x.Ok m
 |.nil,_,_,_,_,_,x,hx=>by cases hx
 |.cons k t r,b,f,last,p,h,x,hx=>by
  have h:(if M8 b last k=true then(t.val I).bind λp=>(r.val I b k).map λq=>(p.1+q.1,max p.2 q.2)else none)=some p:=h;split at h
  ·rename_i hf
   obtain⟨p1,h1,h2⟩:=Option.bind_eq_some_iff.mp h;obtain⟨p2,h3,_⟩:=Option.map_eq_some_iff.mp h2;have hx:x∈(D1 f).map Tk.sg++((M1 b k).map Tk.sg++(t.tk++r.tk b false)):=hx;rcases mem_append.mp hx with hx|hx
   ·cases f with
    |true=>cases hx
    |false=>
     obtain⟨c,hc,rfl⟩:=mem_map.mp hx;exact(by decide:∀c∈D1 false,c≠35/\c≠59) c hc
   ·rcases mem_append.mp hx with hx|hx
    ·obtain⟨c,hc,rfl⟩:=mem_map.mp hx
     cases b with
     |false=>cases hc
     |true=>
      rw[show M8 true last k=(C7 (sL k)&&C3 (sL last) (sL k))from rfl,Bool.and_eq_true]at hf;rcases mem_append.mp (show c∈k++[58,32]from hc)with hc|hc
      ·have:=iR hf.1 c hc
       exact⟨!1,!1⟩
      ·exact(by decide:∀c∈[58,32],c≠35/\c≠59) c hc
    ·rcases mem_append.mp hx with hx|hx
     ·exact nQ hI t h1 x hx
     ·exact yB hI r b false h3 x hx
  ·cases h
end
def Tk.ex(k:Nat)(N:List Nat):Tk->List Nat
 |.sg c=>[c]
 |.mk j=>if j=k then N else B8 j
def P7(k:Nat)(N:List Nat)(ts:List Tk):List Nat:=ts.flatMap (Tk.ex k N)
theorem eG(k:Nat)(N:List Nat)(ts us:List Tk):P7 k N (ts++us)=P7 k N ts++P7 k N us:=by unfold P7;rw[flatMap_append]
theorem cA(k:Nat)(N:List Nat)(t:Tk)(ts:List Tk):P7 k N (t::ts)=t.ex k N++P7 k N ts:=by unfold P7;rw[flatMap_cons]
theorem iS(k:Nat)(N:List Nat):∀w:List Nat,P7 k N (w.map .sg)=w
 |[]=>rfl
 |c::w=>by rw[map_cons,cA,iS k N w];rfl
theorem nR{m:Nat}{N:List Nat}:∀{ts:List Tk},(∀t∈ts,t.Ok m)->P7 m N ts=C4 ts
 |[],_=>rfl
 |t::ts,h=>by
  rw[cA,P0,nR λx hx=>h x (mem_cons_of_mem _ hx)];have:=h t mem_cons_self;cases t with
  |sg c=>rfl
  |mk j=>
   have:j<m:=this;show(if j=m then N else B8 j)++_=_;rw[if_neg (!1)];rfl
mutual
noncomputable def cB(k:Nat)(n:Tr):Tr->Tr
 |.lf w=>open Classical in if w=B8 k then n else .lf w
 |.nd b l=>.nd b (Z2 k n l)
noncomputable def Z2(k:Nat)(n:Tr):Trs->Trs
 |.nil=>.nil
 |.cons j t r=>.cons j (cB k n t) (Z2 k n r)
end
mutual
theorem yC(k:Nat)(n:Tr):∀t:Tr,(cB k n t).tx=P7 k n.tx t.tk
 |.lf w=>by
  show(if w=B8 k then n else Tr.lf w).tx=P7 k n.tx (Z1 w);by_cases h:w=B8 k
  ·subst h
   rw[if_pos rfl,iP,cA];show _=(if k=k then n.tx else B8 k)++[];rw[if_pos rfl,append_nil]
  ·rw[if_neg h]
   by_cases h2:∃j,w=B8 j
   ·obtain⟨j,rfl⟩:=h2
    rw[iP,cA];show B8 j=(if j=k then n.tx else B8 j)++[];rw[if_neg (λe=>h (by rw[e])),append_nil]
   ·rw[nM h2,iS]
    rfl
 |.nd b l=>by
  show G1 b::((Z2 k n l).tx b true++[cls b])=P7 k n.tx (.sg (G1 b)::(l.tk b true++[.sg (cls b)]));rw[cA,eG,yD k n l b true];rfl
theorem yD(k:Nat)(n:Tr):∀(l:Trs)(b f:Bool),(Z2 k n l).tx b f=P7 k n.tx (l.tk b f)
 |.nil,_,_=>rfl
 |.cons j t r,b,f=>by
  show D1 f++(M1 b j++((cB k n t).tx++(Z2 k n r).tx b false))=P7 k n.tx ((D1 f).map .sg++((M1 b j).map .sg++(t.tk++r.tk b false)));rw[eG,eG,eG,iS,iS,yC k n t,yD k n r b false]
end
mutual
theorem yE{I I':Iv}{k:Nat}{n:Tr}(h1:n.val I=I' (B8 k))(h2:∀w,w≠B8 k->I w=I' w):∀t:Tr,(cB k n t).val I=t.val I'
 |.lf w=>by
  show(if w=B8 k then n else Tr.lf w).val I=I' w;by_cases h:w=B8 k
  ·rw[if_pos h,h,h1]
  ·rw[if_neg h]
   exact h2 w h
 |.nd b l=>by
  show((Z2 k n l).val I b []).map _=(l.val I' b []).map _;rw[yF h1 h2 l b []]
theorem yF{I I':Iv}{k:Nat}{n:Tr}(h1:n.val I=I' (B8 k))(h2:∀w,w≠B8 k->I w=I' w):∀(l:Trs)(b:Bool)(last:List Nat),(Z2 k n l).val I b last=l.val I' b last
 |.nil,_,_=>rfl
 |.cons j t r,b,last=>by
  show(if M8 b last j=true then((cB k n t).val I).bind λp=>((Z2 k n r).val I b j).map λq=>(p.1+q.1,max p.2 q.2)else none)=(if M8 b last j=true then(t.val I').bind λp=>(r.val I' b j).map λq=>(p.1+q.1,max p.2 q.2)else none);rw[yE h1 h2 t,yF h1 h2 r b j]
end
def N4(I:Iv)(S:List Nat)(p:Nat×Nat):Prop:=∃t:Tr,t.tx=S/\t.val I=some p
theorem HQ{m:Nat}{I I':Iv}{n:Tr}{P Q:List Tk}{p:Nat×Nat}(hI:iQ (m+1) I')(h1:n.val I=I' (B8 m))(h2:∀w,w≠B8 m->I w=I' w)(hP:∀t∈P,t.Ok m)(hQ:∀t∈Q,t.Ok m)(h:N4 I' (C4 P++(B8 m++C4 Q)) p):N4 I (C4 P++(n.tx++C4 Q)) p:=by
 obtain⟨t,e,hv⟩:=h;have mono:∀{ts:List Tk},(∀t∈ts,t.Ok m)->∀t∈ts,t.Ok (m+1):=λh t ht=>by
  have:=h t ht;cases t with
  |sg c=>exact this
  |mk j=>have:j<m:=this;show j<m+1;omega
 have e2:t.tk=P++(.mk m::Q):=by
  refine xZ (m:=m+1) (nQ hI t hv) (λx hx=>?_) (by rw[nO,e,bZ,P0];rfl);rcases mem_append.mp hx with hx|hx
  ·exact mono hP x hx
  ·rcases mem_cons.mp hx with rfl|hx
   ·exact lt_succ_self m
   ·exact mono hQ x hx
 refine⟨cB m n t,?_,by rw[yE h1 h2 t,hv]⟩;rw[yC,e2,eG,cA,nR hP,nR hQ];show _++((if m=m then n.tx else B8 m)++_)=_;rw[if_pos rfl]
def pl(c:Nat):Bool:=!(c==91||c==93||c==123||c==125||c==44||c==58||c==32)
def W7(I:Iv):Prop:=∀w p,I w=some p->w≠[]/\∀c∈w,pl c=true
def C2(c:Nat):Bool:=c==93||c==125
def G9(c:Nat):Bool:=c==91||c==123
theorem nS{c:Nat}(h:pl c=true):C2 c=false/\G9 c=false:=by
 unfold pl at h;unfold C2 G9;simp at h ⊢;omega
def Trs.lfs:Trs->Prop
 |.nil=>True
 |.cons _ t r=>(∃w,t=.lf w)/\r.lfs
theorem aK{I:Iv}{k:List Nat}{t:Tr}{r:Trs}{b:Bool}{last:List Nat}{p:Nat×Nat}(h:(Trs.cons k t r).val I b last=some p):M8 b last k=true/\∃p1 p2,t.val I=some p1/\r.val I b k=some p2/\p=(p1.1+p2.1,max p1.2 p2.2):=by
 have h:(if M8 b last k=true then(t.val I).bind λp=>(r.val I b k).map λq=>(p.1+q.1,max p.2 q.2)else none)=some p:=h;split at h
 ·rename_i hf
  obtain⟨p1,h1,h2⟩:=Option.bind_eq_some_iff.mp h;obtain⟨p2,h3,h4⟩:=Option.map_eq_some_iff.mp h2;exact⟨hf,p1,p2,h1,h3,h4.symm⟩
 ·cases h
theorem eI{I:Iv}{k:List Nat}{t:Tr}{r:Trs}{b:Bool}{last:List Nat}{p1 p2:Nat×Nat}(hf:M8 b last k=true)(h1:t.val I=some p1)(h2:r.val I b k=some p2):(Trs.cons k t r).val I b last=some (p1.1+p2.1,max p1.2 p2.2):=by
 show(if M8 b last k=true then(t.val I).bind λp=>(r.val I b k).map λq=>(p.1+q.1,max p.2 q.2)else none)=_;rw[if_pos hf,h1,h2];rfl
theorem nU{b:Bool}{last k:List Nat}(h:M8 b last k=true):∀c∈M1 b k,C2 c=false/\G9 c=false:=λc hc=>by
 cases b with
 |false=>cases hc
 |true=>
  rw[show M8 true last k=(C7 (sL k)&&C3 (sL last) (sL k))from rfl,Bool.and_eq_true]at h;rcases mem_append.mp (show c∈k++[58,32]from hc)with hc|hc
  ·have:=iR h.1 c hc
   unfold C2 G9;simp;omega
  ·exact(by decide:∀c∈[58,32],C2 c=false/\G9 c=false) c hc
theorem nV(f:Bool):∀c∈D1 f,C2 c=false/\G9 c=false:=by cases f<;>decide
mutual
theorem yG{I:Iv}(hI:W7 I):∀(t:Tr){p:Nat×Nat},t.val I=some p->(∃w,t=.lf w)∨∃(b:Bool)(l:Trs)(pre post:List Nat)(f:Tr->Tr)(v:Nat×Nat),l.lfs/\l.val I b []=some v/\(∀c∈pre,C2 c=false)/\(∀x,(f x).tx=pre++(x.tx++post))/\f (.nd b l)=t/\∀(x:Tr)(I':Iv),x.val I'=(Tr.nd b l).val I'->(f x).val I'=t.val I'
 |.lf w,p,h=>.inl ⟨w,rfl⟩
 |.nd b l,p,h=>.inr (by
  obtain⟨q,hq,_⟩:=Option.map_eq_some_iff.mp (show(l.val I b []).map _=some p from h);rcases yH hI l b hq with hl|⟨b',l',pre,post,f,v,h1,h2,h3,h4,h5,h6⟩
  ·exact⟨b,l,[],[],id,q,hl,hq,(λc hc=>(by cases hc)),(λx=>(!2)),rfl,λx I' e=>e⟩
  ·refine⟨b',l',G1 b::pre true,post++[cls b],λx=>.nd b (f x),v,h1,h2,λc hc=>?_,λx=>?_,by show Tr.nd b (f _)=_;rw[h5],λx I' e=>?_⟩
   ·rcases mem_cons.mp hc with rfl|hc
    ·cases b<;>decide
    ·exact h3 true c hc
   ·show G1 b::((f x).tx b true++[cls b])=_
    rw[h4];simp
   ·show((f x).val I' b []).map _=(l.val I' b []).map _
    rw[h6 x I' [] e])
theorem yH{I:Iv}(hI:W7 I):∀(l:Trs)(b:Bool){last:List Nat}{p:Nat×Nat},l.val I b last=some p->l.lfs∨∃(b':Bool)(l':Trs)(pre:Bool->List Nat)(post:List Nat)(f:Tr->Trs)(v:Nat×Nat),l'.lfs/\l'.val I b' []=some v/\(∀fl,∀c∈pre fl,C2 c=false)/\(∀x fl,(f x).tx b fl=pre fl++(x.tx++post))/\f (.nd b' l')=l/\∀(x:Tr)(I':Iv)(last:List Nat),x.val I'=(Tr.nd b' l').val I'->(f x).val I' b last=l.val I' b last
 |.nil,b,last,p,h=>.inl trivial
 |.cons k t r,b,last,p,h=>by
  obtain⟨hf,p1,p2,ht,hr,_⟩:=aK h;rcases yG hI t ht with⟨w,rfl⟩|⟨b',l',pre,post,f,v,h1,h2,h3,h4,h5,h6⟩
  ·rcases yH hI r b hr with hl|⟨b',l',pre,post,f,v,h1,h2,h3,h4,h5,h6⟩
   ·exact .inl ⟨⟨w,rfl⟩,hl⟩
   ·refine .inr ⟨b',l',λfl=>D1 fl++(M1 b k++(w++pre false)),post,λx=>.cons k (.lf w) (f x),v,h1,h2,λfl c hc=>?_,λx fl=>?_,by show Trs.cons k _ (f _)=_;rw[h5],λx I' last e=>?_⟩
    ·rcases mem_append.mp hc with hc|hc
     ·exact(nV fl c hc).1
     ·rcases mem_append.mp hc with hc|hc
      ·exact(nU hf c hc).1
      ·rcases mem_append.mp hc with hc|hc
       ·exact(nS ((hI w p1 ht).2 c hc)).1
       ·exact h3 false c hc
    ·show D1 fl++(M1 b k++(w++(f x).tx b false))=_
     rw[h4];simp
    ·show(if M8 b last k=true then _ else none)=(if M8 b last k=true then _ else none)
     rw[h6 x I' k e]
  ·refine .inr ⟨b',l',λfl=>D1 fl++(M1 b k++pre),post++r.tx b false,λx=>.cons k (f x) r,v,h1,h2,λfl c hc=>?_,λx fl=>?_,by show Trs.cons k (f _) _=_;rw[h5],λx I' last e=>?_⟩
   ·rcases mem_append.mp hc with hc|hc
    ·exact(nV fl c hc).1
    ·rcases mem_append.mp hc with hc|hc
     ·exact(nU hf c hc).1
     ·exact h3 c hc
   ·show D1 fl++(M1 b k++((f x).tx++r.tx b false))=_
    rw[h4];simp
   ·show(if M8 b last k=true then((f x).val I').bind _ else none)=(if M8 b last k=true then(t.val I').bind _ else none)
    rw[h6 x I' e]
end
mutual
theorem nW{I I':Iv}(h:∀w p,I w=some p->I' w=some p):∀(t:Tr){p:Nat×Nat},t.val I=some p->t.val I'=some p
 |.lf w,p,e=>h w p e
 |.nd b l,p,e=>by
  obtain⟨q,hq,he⟩:=Option.map_eq_some_iff.mp (show(l.val I b []).map _=some p from e);show(l.val I' b []).map _=some p;rw[yI h l b hq];exact congrArg some he
theorem yI{I I':Iv}(h:∀w p,I w=some p->I' w=some p):∀(l:Trs)(b:Bool){last:List Nat}{p:Nat×Nat},l.val I b last=some p->l.val I' b last=some p
 |.nil,b,last,p,e=>e
 |.cons k t r,b,last,p,e=>by
  obtain⟨hf,p1,p2,ht,hr,rfl⟩:=aK e;exact eI hf (nW h t ht) (yI h r b hr)
end
theorem yJ{m:Nat}{I I':Iv}(hP:W7 I)(h2:∀w p,I w=some p->I' w=some p){t:Tr}{p:Nat×Nat}(ht:t.val I=some p)(hn:¬∃w,t=.lf w):∃(b:Bool)(l:Trs)(pre post:List Nat)(v:Nat×Nat),l.lfs/\l.val I b []=some v/\(∀c∈pre,C2 c=false)/\t.tx=pre++((Tr.nd b l).tx++post)/\(I' (B8 m)=some (v.1+1,v.2+1)->N4 I' (pre++(B8 m++post)) p):=by
 rcases yG hP t ht with h|⟨b,l,pre,post,f,v,h1,h2',h3,h4,h5,h6⟩
 ·exact absurd h hn
 ·refine⟨b,l,pre,post,v,h1,h2',h3,by rw[←h5,h4],λe=>⟨f (.lf (B8 m)),h4 _,?_⟩⟩
  have e1:(Tr.nd b l).val I=some (v.1+1,v.2+1):=by
   show(l.val I b []).map _=_;rw[h2'];rfl
  rw[h6 (.lf (B8 m)) I' (by rw[nW h2 _ e1];exact e)];exact nW h2 t ht
theorem iT{q:Nat->Bool}:∀{a b r s:List Nat}{c d:Nat},(∀x∈a,q x=false)->(∀x∈b,q x=false)->q c=true->q d=true->a++c::r=b++d::s->a=b/\c=d/\r=s
 |[],[],_,_,_,_,_,_,_,_,e=>⟨rfl,(List.cons.inj e).1,(List.cons.inj e).2⟩
 |[],y::b,_,_,c,d,_,hb,hc,_,e=>by
  have:=hb y mem_cons_self;rw[←(List.cons.inj e).1,hc]at this;cases this
 |x::a,[],_,_,c,d,ha,_,_,hd,e=>by
  have:=ha x mem_cons_self;rw[(List.cons.inj e).1,hd]at this;cases this
 |x::a,y::b,_,_,c,d,ha,hb,hc,hd,e=>by
  obtain⟨e1,e2⟩:=List.cons.inj e;obtain⟨h1,h2,h3⟩:=iT (λz hz=>ha z (mem_cons_of_mem _ hz)) (λz hz=>hb z (mem_cons_of_mem _ hz)) hc hd e2;exact⟨by rw[e1,h1],h2,h3⟩
theorem nX{pre inr post pre' inr' post':List Nat}{o c o' c':Nat}(h1:∀x∈pre,C2 x=false)(h2:∀x∈inr,C2 x=false/\G9 x=false)(h3:G9 o=true)(h4:C2 c=true)(h1':∀x∈pre',C2 x=false)(h2':∀x∈inr',C2 x=false/\G9 x=false)(h3':G9 o'=true)(h4':C2 c'=true)
  (e:pre++o::(inr++c::post)=pre'++o'::(inr'++c'::post')):pre=pre'/\o=o'/\inr=inr'/\c=c'/\post=post':=by
 have oc:∀o,G9 o=true->C2 o=false:=λo h=>by
  unfold G9 at h;unfold C2;simp at h ⊢;omega
 have e1:(pre++o::inr)++c::post=(pre'++o'::inr')++c'::post':=by simpa using e
 have fr:∀{pre inr:List Nat}{o:Nat},(∀x∈pre,C2 x=false)->(∀x∈inr,C2 x=false/\G9 x=false)->G9 o=true->∀x∈pre++o::inr,C2 x=false:=λa1 a2 a3 x hx=>by
  rcases mem_append.mp hx with hx|hx
  ·exact a1 x hx
  ·rcases mem_cons.mp hx with rfl|hx
   ·exact oc _ a3
   ·exact(a2 x hx).1
 obtain⟨e2,e3,e4⟩:=iT (fr h1 h2 h3) (fr h1' h2' h3') h4 h4' e1;have e5:inr.reverse++o::pre.reverse=inr'.reverse++o'::pre'.reverse:=by
  have:=congrArg List.reverse e2;simpa using this
 obtain⟨e6,e7,e8⟩:=iT (q:=G9) (λx hx=>(h2 x (List.mem_reverse.mp hx)).2) (λx hx=>(h2' x (List.mem_reverse.mp hx)).2) h3 h3' e5;exact⟨List.reverse_inj.mp e8,e7,List.reverse_inj.mp e6,e3,e4⟩
end Rg
namespace Rg
open PySem PySem.W PySem.Spec PyProof.Rows L2 PySem.NumText Builtin.Str
theorem yK{cs:List Nat}(h:AllDigits cs)(h1:cs≠[])(h2:¬(1<cs.length/\cs.head?=some 48)):dg (digitsVal cs)=cs:=by
 have e:∀l:List Nat,AllDigits l->(l.map Char.ofNat).map Char.toNat=l:=λl hl=>by
  rw[map_map];refine(map_congr_left λc hc=>?_).trans (map_id l);have:=hl c hc;have k:∀c<58,(Char.ofNat c).toNat=c:=by decide
  exact k c (!1)
 cases cs with
 |nil=>exact absurd rfl h1
 |cons c r=>
  unfold dg;rw[toDigits_digitsVal r.length (c::r) rfl h ?_,e _ h];by_cases hr:r.length=0
  ·exact .inl hr
  ·refine .inr ⟨c,r,rfl,?_⟩
   have hc:=h c mem_cons_self;have:c≠48:=λz=>h2 ⟨by rw[length_cons];omega,by rw[z];rfl⟩
   omega
theorem nY(m:Nat):¬(1<(dg m).length/\(dg m).head?=some 48):=by
 rintro ⟨h1,h2⟩;cases e:dg m with
 |nil=>rw[e]at h1;cases h1
 |cons c r=>
  rw[e]at h1 h2;obtain rfl:c=48:=by simpa using h2
  have hm:digitsVal (48::r)=m:=by rw[←e];exact KIN.val_back m
  rw[digitsVal_zero]at hm;have hr:AllDigits r:=λd hd=>O8 m d (by rw[e];exact mem_cons_of_mem _ hd)
  cases hl:r.length with
  |zero=>rw[length_cons]at h1;omega
  |succ k=>
   have h3:=(Y3 k m (by rw[←hm,←hl];exact iE _ r rfl hr)).2;rw[e,length_cons]at h3;omega
theorem HR{z:Str}(h1:1<=(E2 z).length)(h2:(E2 z).length<=60)(h3:(E2 z).cps.toList.all E1=true):J2 z=true↔z.cps.toList≠[45,48]/\¬(1<(E2 z).length/\(E2 z).cps.toList.head?=some 48):=by
 have a3:=Y4.mp h3;have inl:z.length<=61:=by obtain⟨_,_,_,h⟩:=mY h1 h2 h3;exact h
 constructor
 ·intro h
  obtain⟨n,hn,rfl,_⟩:=dX h;rcases Int.eq_nat_or_neg n with⟨m,rfl|rfl⟩
  ·have hf:E2 (nT (m:Nat))=nT (m:Nat):=by
    unfold E2;rw[if_neg];intro hs;obtain⟨cs,ec⟩:=(U7 _).mp hs;have e:=P5 m;rw[e]at ec;have:=O8 m 45 (by rw[ec];exact mem_cons_self);omega
   rw[hf,P5,A8,P5];refine⟨λe=>?_,nY m⟩;have:=O8 m 45 (by rw[e];exact mem_cons_self);omega
  ·cases m with
   |zero=>
    have e0:(nT (-((0:Nat):Int))).cps.toList=dg 0:=P5 0;have hf:E2 (nT (-((0:Nat):Int)))=nT (-((0:Nat):Int)):=by
     unfold E2;rw[if_neg];intro hs;obtain⟨cs,ec⟩:=(U7 _).mp hs;rw[e0]at ec;have:=O8 0 45 (by rw[ec];exact mem_cons_self);omega
    rw[hf,A8,e0];refine⟨λe=>?_,nY 0⟩;have:=O8 0 45 (by rw[e];exact mem_cons_self);omega
   |succ m=>
    have e:=bW m;have hs:=(U7 _).mpr ⟨_,e⟩;have hf:(E2 (nT (-((m+1:Nat):Int)))).cps.toList=dg (m+1):=by
     unfold E2;rw[if_pos hs,bX e]
    rw[A8,hf,e];refine⟨λz=>?_,nY (m+1)⟩;have e2:dg (m+1)=[48]:=(List.cons.inj z).2;have:=nL (e2.trans (by decide +kernel:[48]=dg 0));omega
 ·rintro ⟨g1,g2⟩
  unfold J2;rw[decide_eq_true h1,decide_eq_true h2,h3,Bool.true_and,Bool.true_and,Bool.true_and];refine decide_eq_true (Q9 ?_);by_cases hs:Txt.startswith z "-"=true
  ·obtain⟨cs,e⟩:=(U7 z).mp hs
   have hf:(E2 z).cps.toList=cs:=by unfold E2;rw[if_pos hs,bX e]
   rw[A8,hf]at g2 h1;rw[hf]at a3;have hne:cs≠[]:=λz=>by rw[z]at h1;cases h1
   rw[intText_neg e a3 hne (!1)];show(nT (-((digitsVal cs:Nat):Int))).cps.toList=_;have hv:=yK a3 hne g2;cases hd:digitsVal cs with
   |zero=>
    rw[hd]at hv;exact absurd (by rw[e,←hv];rfl) g1
   |succ k=>rw[bW,←hd,hv,e]
  ·have hf:E2 z=z:=by unfold E2;rw[if_neg hs]
   rw[hf,A8]at g2 h1;rw[hf]at a3;have hne:z.cps.toList≠[]:=λz=>by rw[z]at h1;cases h1
   rw[intText_digits a3 hne (!1)];show(nT ((digitsVal z.cps.toList:Nat):Int)).cps.toList=_;rw[P5,yK a3 hne g2]
theorem HS{z:Str}(h:J2 z=true):1<=(E2 z).length/\(E2 z).length<=60/\(E2 z).cps.toList.all E1=true:=by
 unfold J2 at h;simp only[Bool.and_eq_true,decide_eq_true_eq]at h;exact⟨h.1.1.1,h.1.1.2,h.1.2⟩
theorem yL{z:Str}(h:J2 z=true):z.cps.toList≠[]/\∀c∈z.cps.toList,E1 c=true∨c=45:=by
 obtain⟨n,hn,rfl,_⟩:=dX h;obtain⟨h1,h2,_⟩:=eC hn;refine⟨λe=>(by rw[e]at h1;cases h1),λc hc=>?_⟩;have fg:∀m:Nat,∀c∈dg m,E1 c=true:=λm c hc=>all_eq_true.mp (Y4.mpr (O8 m)) c hc
 rcases Int.eq_nat_or_neg n with⟨m,rfl|rfl⟩
 ·rw[P5]at hc
  exact .inl (fg m c hc)
 ·cases m with
  |zero=>
   rw[show(nT (-((0:Nat):Int))).cps.toList=dg 0 from P5 0]at hc;exact .inl (fg 0 c hc)
  |succ m=>
   rw[bW]at hc;rcases mem_cons.mp hc with rfl|hc
   ·exact .inr rfl
   ·exact .inl (fg _ c hc)
noncomputable def C5(made:List (Nat×Nat)):Iv:=λw=>open Classical in
 if h:∃k,w=B8 k then made[h.choose]? else if C7 (sL w)=true∨J2 (sL w)=true then some (1,1)else none
theorem aM(made:List (Nat×Nat))(k:Nat):C5 made (B8 k)=made[k]?:=by
 have h:∃j,B8 k=B8 j:=⟨k,rfl⟩
 unfold C5;rw[dif_pos h,←xX h.choose_spec]
theorem Z3(made:List (Nat×Nat)){w:List Nat}(h:¬∃k,w=B8 k):C5 made w=if C7 (sL w)=true∨J2 (sL w)=true then some (1,1)else none:=by
 unfold C5;rw[dif_neg h]
theorem eJ{w:List Nat}(h:C7 (sL w)=true∨J2 (sL w)=true):w≠[]/\∀c∈w,(97<=c/\c<=122)∨(48<=c/\c<=57)∨c=45:=by
 rcases h with h|h
 ·refine⟨λe=>?_,λc hc=>.inl (iR h c hc)⟩
  have:=(V0 h).1;rw[Y7,e]at this;cases this
 ·obtain⟨h1,h2⟩:=yL h
  refine⟨h1,λc hc=>?_⟩;rcases h2 c hc with z|z
  ·unfold E1 at z
   exact .inr (.inl (by simpa using z))
  ·exact .inr (.inr z)
theorem yM(made:List (Nat×Nat)):iQ made.length (C5 made):=λw p h=>by
 by_cases hk:∃k,w=B8 k
 ·obtain⟨k,rfl⟩:=hk
  rw[aM]at h;exact .inl ⟨k,(List.getElem?_eq_some_iff.mp h).1,rfl⟩
 ·rw[Z3 made hk]at h
  split at h
  ·rename_i hw
   refine .inr λc hc=>?_
   have:=(eJ hw).2 c hc;exact⟨!1,!1⟩
  ·cases h
theorem nZ(made:List (Nat×Nat)):W7 (C5 made):=λw p h=>by
 have key:∀c,(97<=c/\c<=122)∨(48<=c/\c<=57)∨c=45∨c=35∨c=59->pl c=true:=λc h=>by
  unfold pl;simp;omega
 by_cases hk:∃k,w=B8 k
 ·obtain⟨k,rfl⟩:=hk
  refine⟨by unfold B8;simp,λc hc=>key c ?_⟩;rcases mem_cons.mp hc with rfl|hc
  ·omega
  ·rcases mem_append.mp hc with hc|hc
   ·have:=aJ hc
    omega
   ·have:c=59:=by simpa using hc
    omega
 ·rw[Z3 made hk]at h
  split at h
  ·rename_i hw
   refine⟨(eJ hw).1,λc hc=>key c ?_⟩;have:=(eJ hw).2 c hc;omega
  ·cases h
theorem yN(made:List (Nat×Nat))(q:Nat×Nat):C5 (made++[q]) (B8 made.length)=some q:=by
 rw[aM];simp
theorem yO(made:List (Nat×Nat))(q:Nat×Nat){w:List Nat}(h:w≠B8 made.length):C5 made w=C5 (made++[q]) w:=by
 by_cases hk:∃k,w=B8 k
 ·obtain⟨k,rfl⟩:=hk
  rw[aM,aM];have:k≠made.length:=λe=>h (by rw[e])
  rcases lt_or_ge k made.length with z|z
  ·rw[getElem?_append_left z]
  ·rw[getElem?_eq_none z,getElem?_eq_none (by rw[length_append];show made.length+1<=k;omega)]
 ·rw[Z3 made hk,Z3 _ hk]
theorem HU(made:List (Nat×Nat))(q:Nat×Nat){w:List Nat}{p:Nat×Nat}(h:C5 made w=some p):C5 (made++[q]) w=some p:=by
 by_cases e:w=B8 made.length
 ·rw[e,aM,getElem?_eq_none (le_refl _)]at h
  cases h
 ·rw[←yO made q e,h]
abbrev HV:Str:=⟨#[44,32]⟩
abbrev iU:Str:=⟨#[58,32]⟩
def F7(I:Iv)(b:Bool):List Str->Str->Option (Nat×Nat)
 |[],_=>some (0,0)
 |z::r,last=>if b then(match Txt.split z iU with
   |[k,x]=>if C7 k=true/\C3 last k=true then(I x.cps.toList).bind λp=>(F7 I b r k).map λq=>(p.1+q.1,max p.2 q.2)else none
   |_=>none)
  else(I z.cps.toList).bind λp=>(F7 I b r last).map λq=>(p.1+q.1,max p.2 q.2)
theorem oA{I:Iv}{z k x:Str}{r:List Str}{last:Str}(hs:Txt.split z iU=[k,x]):F7 I true (z::r) last=if C7 k=true/\C3 last k=true then(I x.cps.toList).bind λp=>(F7 I true r k).map λq=>(p.1+q.1,max p.2 q.2)else none:=by
 rw[F7,if_pos rfl,hs]
theorem yP{I:Iv}{z:Str}{r:List Str}{last:Str}{v:Nat×Nat}(h:F7 I true (z::r) last=some v):∃k x,Txt.split z iU=[k,x]:=by
 rw[F7,if_pos rfl]at h;split at h
 ·rename_i k x hs
  exact⟨k,x,hs⟩
 ·cases h
def O2(z:Str):List Str:=if z.cps.toList=[]then[]else Txt.split z HV
def Trs.its(b:Bool):Trs->List Str
 |.nil=>[]
 |.cons k t r=>sL (M1 b k++t.tx)::r.its b
theorem yQ(b:Bool):∀(l:Trs),l.tx b false=(l.its b).flatMap λz=>44::32::z.cps.toList
 |.nil=>rfl
 |.cons k t r=>by
  show D1 false++(M1 b k++(t.tx++r.tx b false))=_;rw[yQ b r];show _=(sL (M1 b k++t.tx)::r.its b).flatMap _;rw[flatMap_cons];simp[D1]
theorem yR(a b:Nat):∀(z:Str)(r:List Str),J6 a b (z::r)=z.cps.toList++r.flatMap λz=>a::b::z.cps.toList
 |z,[]=>by show z.cps.toList=_;simp
 |z,y::r=>by
  show z.cps.toList++a::b::J6 a b (y::r)=_;rw[yR a b y r,flatMap_cons];simp
theorem yS(b:Bool)(l:Trs):l.tx b true=J6 44 32 (l.its b):=by
 cases l with
 |nil=>rfl
 |cons k t r=>
  show D1 true++(M1 b k++(t.tx++r.tx b false))=J6 44 32 (sL (M1 b k++t.tx)::r.its b);rw[yR,yQ];simp[D1]
theorem yT{last k:List Nat}(h:M8 true last k=true):C7 (sL k)=true/\C3 (sL last) (sL k)=true:=by
 rw[show M8 true last k=(C7 (sL k)&&C3 (sL last) (sL k))from rfl,Bool.and_eq_true]at h;exact h
theorem yU{I:Iv}(hI:W7 I)(b:Bool):∀(l:Trs)(last:List Nat){v:Nat×Nat},l.lfs->l.val I b last=some v->F7 I b (l.its b) (sL last)=some v/\∀z∈l.its b,44∉z.cps.toList
 |.nil,last,v,_,h=>⟨h,λz hz=>by cases hz⟩
 |.cons k t r,last,v,hl,h=>by
  obtain⟨⟨w,rfl⟩,hl⟩:=hl;obtain⟨hf,p1,p2,h1,h2,rfl⟩:=aK h;have h1:I w=some p1:=h1;have pw:=(hI w p1 h1).2;have pn:∀c∈w,c≠44/\c≠58:=λc hc=>by
   have:=pw c hc;unfold pl at this;simp at this;exact⟨!1,!1⟩
  obtain⟨i1,i2⟩:=yU hI b r k hl h2;cases b with
  |false=>
   have hk:k=[]:=List.isEmpty_iff.mp hf;subst hk;refine⟨?_,λz hz=>?_⟩
   ·show(I w).bind (λp=>(F7 I false (r.its false) (sL last)).map λq=>(p.1+q.1,max p.2 q.2))=_
    have e:∀(L:List Str)(a c:Str),F7 I false L a=F7 I false L c:=λL=>by
     induction L with
     |nil=>intros;rfl
     |cons z L ih=>
      intro a c;show(I z.cps.toList).bind (λp=>(F7 I false L a).map λq=>(p.1+q.1,max p.2 q.2))=(I z.cps.toList).bind (λp=>(F7 I false L c).map λq=>(p.1+q.1,max p.2 q.2));rw[ih a c]
    rw[h1,e _ (sL last) (sL []),i1];rfl
   ·rcases mem_cons.mp (show z∈sL ([]++w)::r.its false from hz)with rfl|hz
    ·exact λhc=>(pn 44 hc).1 rfl
    ·exact i2 z hz
  |true=>
   obtain⟨k1,k2⟩:=yT hf;have kn:∀c∈k,97<=c/\c<=122:=iR k1
   have hs:Txt.split (sL (M1 true k++w)) iU=[sL k,sL w]:=by
    refine xW (!3) (!3) (!3) (!2) (λz hz=>?_) (show(k++[58,32])++w=k++58::32::w by simp);rcases mem_cons.mp hz with rfl|hz
    ·exact λhc=>by have:=kn 58 hc;omega
    ·rw[mem_singleton.mp hz]
     exact λhc=>(pn 58 hc).2 rfl
   refine⟨?_,λz hz=>?_⟩
   ·rw[show(Trs.cons k (.lf w) r).its true=sL (M1 true k++w)::r.its true from rfl,oA hs]
    show(if C7 (sL k)=true/\C3 (sL last) (sL k)=true then(I w).bind (λp=>(F7 I true (r.its true) (sL k)).map λq=>(p.1+q.1,max p.2 q.2))else none)=_;rw[if_pos ⟨k1,k2⟩,h1,i1];rfl
   ·rcases mem_cons.mp (show z∈sL ((k++[58,32])++w)::r.its true from hz)with rfl|hz
    ·intro hc
     rcases mem_append.mp (show 44∈(k++[58,32])++w from hc)with hc|hc
     ·rcases mem_append.mp hc with hc|hc
      ·have:=kn 44 hc;omega
      ·revert hc;decide
     ·exact(pn 44 hc).1 rfl
    ·exact i2 z hz
theorem oB{I:Iv}(b:Bool):∀(L:List Str)(last:List Nat){v:Nat×Nat},F7 I b L (sL last)=some v->∃l:Trs,l.lfs/\l.its b=L/\∀lst,(b=true->lst=last)->l.val I b lst=some v
 |[],last,v,h=>⟨.nil,trivial,rfl,λ_ _=>h⟩
 |z::r,last,v,h=>by
  cases b with
  |false=>
   obtain⟨p1,h1,h⟩:=Option.bind_eq_some_iff.mp (show(I z.cps.toList).bind (λp=>(F7 I false r (sL last)).map λq=>(p.1+q.1,max p.2 q.2))=some v from h);obtain⟨p2,h2,rfl⟩:=Option.map_eq_some_iff.mp h;obtain⟨l,l1,l2,l3⟩:=oB false r last h2;exact⟨.cons [] (.lf z.cps.toList) l,⟨⟨_,rfl⟩,l1⟩,by show sL ([]++z.cps.toList)::l.its false=_;rw[l2,nil_append,O0],λlst _=>eI rfl h1 (l3 [] (λe=>by cases e))⟩
  |true=>
   obtain⟨k,x,hs⟩:=yP h;rw[oA hs]at h;split at h
   ·rename_i hk
    obtain⟨p1,h1,h⟩:=Option.bind_eq_some_iff.mp h;obtain⟨p2,h2,rfl⟩:=Option.map_eq_some_iff.mp h;obtain⟨l,l1,l2,l3⟩:=oB true r k.cps.toList (by rw[O0];exact h2);refine⟨.cons k.cps.toList (.lf x.cps.toList) l,⟨⟨_,rfl⟩,l1⟩,?_,λlst e=>?_⟩
    ·show sL ((k.cps.toList++[58,32])++x.cps.toList)::l.its true=_
     rw[l2];have:=iO 58 32 z;rw[show Txt.split z ⟨#[58,32]⟩=[k,x]from hs]at this;have e:k.cps.toList++[58,32]++x.cps.toList=z.cps.toList:=by rw[←this];show _=k.cps.toList++58::32::x.cps.toList;simp
     rw[e,O0]
    ·rw[e rfl]
     refine eI ?_ h1 (l3 _ λ_=>rfl);rw[show M8 true last k.cps.toList=(C7 (sL k.cps.toList)&&C3 (sL last) (sL k.cps.toList))from rfl,O0,hk.1,hk.2];rfl
   ·cases h
theorem eK{I:Iv}(hI:W7 I)(b:Bool)(z:Str)(v:Nat×Nat):(∃l:Trs,l.lfs/\l.tx b true=z.cps.toList/\l.val I b []=some v)↔F7 I b (O2 z) Str.empty=some v:=by
 have e0:sL []=Str.empty:=rfl;constructor
 ·rintro ⟨l,h1,h2,h3⟩
  obtain⟨i1,i2⟩:=yU hI b l [] h1 h3;rw[e0]at i1;cases l with
  |nil=>
   unfold O2;rw[if_pos (by rw[←h2];rfl)];exact i1
  |cons k t r=>
   obtain⟨⟨w,rfl⟩,_⟩:=h1;obtain⟨_,p1,_,hw,_⟩:=aK h3;have hne:z.cps.toList≠[]:=by
    rw[←h2];show D1 true++(M1 b k++(w++r.tx b false))≠[];have:=(hI w p1 hw).1;simp[this]
   unfold O2;rw[if_neg hne,xW (!3) (!3) (!3) (by show sL _::_≠[];simp) i2 (show z.cps.toList=J6 44 32 ((Trs.cons k (.lf w) r).its b) by rw[←h2,yS])];exact i1
 ·intro h
  rw[←e0]at h;obtain⟨l,l1,l2,l3⟩:=oB b _ [] h;refine⟨l,l1,?_,l3 [] λ_=>rfl⟩;rw[yS,l2];unfold O2;split
  ·rename_i e
   rw[e];rfl
  ·exact iO 44 32 z
end Rg
namespace Rg
open PySem L2
def eL(c:Nat):Prop:=c≠35/\c≠59/\¬(48<=c/\c<=57)
theorem HW{k c:Nat}(h:c∈B8 k):¬eL c:=by
 rintro ⟨h1,h2,h3⟩;rcases mem_cons.mp h with e|h
 ·exact h1 e
 ·rcases mem_append.mp h with h|h
  ·exact h3 (aJ h)
  ·exact h2 (by simpa using h)
theorem iV{c:Nat}(hc:eL c):∀{ts:List Tk}{a b:List Nat},C4 ts=a++c::b->∃P Q,ts=P++.sg c::Q/\C4 P=a/\C4 Q=b
 |[],a,b,e=>by
  have:=congrArg length e;rw[xY,length_append,length_cons]at this;simp at this
 |t::ts,a,b,e=>by
  rw[P0]at e;cases t with
  |sg d=>
   cases a with
   |nil=>
    obtain⟨e1,e2⟩:=List.cons.inj (show d::C4 ts=c::b from e);exact⟨[],ts,by rw[e1];rfl,rfl,e2⟩
   |cons x a=>
    obtain⟨e1,e2⟩:=List.cons.inj (show d::C4 ts=x::(a++c::b)from e);obtain⟨P,Q,h1,h2,h3⟩:=iV hc e2;exact⟨.sg d::P,Q,by rw[h1];rfl,by rw[P0,h2,←e1];rfl,h3⟩
  |mk k=>
   have e:B8 k++C4 ts=a++c::b:=e;have key:∀(m:List Nat)(a:List Nat),(∀x∈m,¬eL x)->m++C4 ts=a++c::b->∃a',a=m++a'/\C4 ts=a'++c::b:=λm=>by
    induction m with
    |nil=>intro a _ e;exact⟨a,rfl,e⟩
    |cons x m ih=>
     intro a hm e;cases a with
     |nil=>
      obtain⟨e1,_⟩:=List.cons.inj (show x::(m++C4 ts)=c::b from e);exact absurd (by rw[e1];exact hc) (hm x mem_cons_self)
     |cons y a=>
      obtain⟨e1,e2⟩:=List.cons.inj (show x::(m++C4 ts)=y::(a++c::b)from e);obtain⟨a',h1,h2⟩:=ih a (λz hz=>hm z (mem_cons_of_mem _ hz)) e2;exact⟨a',by rw[h1,e1];rfl,h2⟩
   obtain⟨a',h1,h2⟩:=key _ a (λx hx=>HW hx) e;obtain⟨P,Q,g1,g2,g3⟩:=iV hc h2;exact⟨.mk k::P,Q,by rw[g1];rfl,by rw[P0,g2,h1];rfl,g3⟩
def cC(m:Nat)(S:List Nat):Prop:=∃ts:List Tk,C4 ts=S/\∀t∈ts,t.Ok m
theorem yV{m:Nat}{ds post:List Nat}(hd:∀c∈ds,E1 c=true):∀{ts:List Tk}{pre:List Nat},(∀t∈ts,t.Ok m)->C4 ts=pre++35::(ds++59::post)->∃k,k<m/\ds=dg k
 |[],pre,_,e=>by
  have:=congrArg length e;rw[xY,length_append,length_cons]at this;simp at this
 |t::ts,pre,hk,e=>by
  rw[P0]at e;have h1:=hk t mem_cons_self;have ih:=λ{p:List Nat} h=>yV (post:=post) hd (ts:=ts) (pre:=p) (λx hx=>hk x (mem_cons_of_mem _ hx)) h
  cases t with
  |sg d=>
   cases pre with
   |nil=>exact absurd (List.cons.inj (show d::C4 ts=35::_ from e)).1 h1.1
   |cons x pre=>exact ih (List.cons.inj (show d::C4 ts=x::(pre++_)from e)).2
  |mk k=>
   have no9:∀{l:List Nat},(∀c∈l,E1 c=true)->59∉l:=λh z=>by have:=h 59 z;revert this;decide
   cases pre with
   |nil=>
    have e2:=(List.cons.inj (show 35::((dg k++[59])++C4 ts)=35::(ds++59::post)from e)).2;rw[append_assoc]at e2;have nk:59∉dg k:=λh=>by have:=aJ h;omega
    exact⟨k,h1,(nD nk (no9 hd) (show dg k++59::C4 ts=ds++59::post from e2)).1.symm⟩
   |cons x pre=>
    have e2:=(List.cons.inj (show 35::((dg k++[59])++C4 ts)=x::(pre++35::(ds++59::post))from e)).2;have key:∀(l a:List Nat),35∉l->l++C4 ts=a++35::(ds++59::post)->∃a',C4 ts=a'++35::(ds++59::post):=λl=>by
     induction l with
     |nil=>intro a _ e;exact⟨a,e⟩
     |cons y l ihl=>
      intro a hn e;cases a with
      |nil=>exact absurd (by rw[(List.cons.inj (show y::(l++C4 ts)=35::_ from e)).1];exact mem_cons_self) hn
      |cons z a=>exact ihl a (λh=>hn (mem_cons_of_mem _ h)) (List.cons.inj (show y::(l++C4 ts)=z::(a++_)from e)).2
    obtain⟨a',h⟩:=key _ _ (λh=>by
     rcases mem_append.mp h with h|h
     ·have:=aJ h;omega
     ·revert h;decide) e2
    exact ih h
theorem yW{m:Nat}{S a w b ds:List Nat}(h:cC m S)(e:S=a++(w++b))(hw:w=35::(ds++[59]))(hd:∀c∈ds,E1 c=true):∃k,k<m/\ds=dg k:=by
 obtain⟨ts,h1,h2⟩:=h;refine yV hd (post:=b) (pre:=a) h2 ?_;rw[h1,e,hw];simp
structure Cut(S pre inr post:List Nat)(o c:Nat):Prop where
 e:S=pre++o::(inr++c::post)
 h1:∀x∈pre,C2 x=false
 h2:∀x∈inr,C2 x=false/\G9 x=false
 o:G9 o=true
 c:C2 c=true
theorem iW{I:Iv}(hI:W7 I){b:Bool}:∀{l:Trs}{last:List Nat}{v:Nat×Nat}(f:Bool),l.lfs->l.val I b last=some v->∀x∈l.tx b f,C2 x=false/\G9 x=false
 |.nil,_,_,_,_,_,x,hx=>by cases hx
 |.cons k t r,last,v,f,hl,h,x,hx=>by
  obtain⟨⟨w,rfl⟩,hl⟩:=hl;obtain⟨hf,p1,p2,h1,h2,_⟩:=aK h;have hx:x∈D1 f++(M1 b k++(w++r.tx b false)):=hx;rcases mem_append.mp hx with hx|hx
  ·exact nV f x hx
  ·rcases mem_append.mp hx with hx|hx
   ·exact nU hf x hx
   ·rcases mem_append.mp hx with hx|hx
    ·exact nS ((hI w p1 h1).2 x hx)
    ·exact iW hI false hl h2 x hx
theorem V1(b:Bool):G9 (G1 b)=true/\C2 (cls b)=true:=by cases b<;>decide
theorem oE{I:Iv}(hI:W7 I){S:List Nat}{p:Nat×Nat}(h:N4 I S p)(hc:∃x∈S,C2 x=true):∃(b:Bool)(l:Trs)(pre post:List Nat)(v:Nat×Nat),l.lfs/\l.val I b []=some v/\Cut S pre (l.tx b true) post (G1 b) (cls b)/\
  ∀(m:Nat)(I':Iv),(∀w p,I w=some p->I' w=some p)->I' (B8 m)=some (v.1+1,v.2+1)->N4 I' (pre++(B8 m++post)) p:=by
 obtain⟨t,e,hv⟩:=h;have hn:¬∃w,t=.lf w:=by
  rintro ⟨w,rfl⟩;obtain⟨x,hx,hcx⟩:=hc;have:=(nS ((hI w p hv).2 x (by rw[show w=S from e];exact hx))).1;rw[this]at hcx;cases hcx
 obtain⟨b,l,pre,post,v,h1,h2,h3,h4,_⟩:=yJ (m:=0) (I':=I) hI (λ_ _ z=>z) hv hn;refine⟨b,l,pre,post,v,h1,h2,⟨?_,h3,iW hI true h1 h2,(V1 b).1,(V1 b).2⟩,λm I' hx hm=>?_⟩
 ·rw[←e,h4]
  show pre++(G1 b::(l.tx b true++[cls b])++post)=_;simp
 ·obtain⟨b',l',pre',post',v',g1,g2,g3,g4,g5⟩:=yJ (m:=m) (I':=I') hI hx hv hn
  have c1:Cut S pre (l.tx b true) post (G1 b) (cls b):=⟨by rw[←e,h4];show pre++(G1 b::(l.tx b true++[cls b])++post)=_;simp,h3,iW hI true h1 h2,(V1 b).1,(V1 b).2⟩;have c2:Cut S pre' (l'.tx b' true) post' (G1 b') (cls b'):=⟨by rw[←e,g4];show pre'++(G1 b'::(l'.tx b' true++[cls b'])++post')=_;simp,g3,iW hI true g1 g2,(V1 b').1,(V1 b').2⟩;obtain⟨u1,u2,u3,u4,u5⟩:=nX c1.h1 c1.h2 c1.o c1.c c2.h1 c2.h2 c2.o c2.c (by rw[←c1.e,←c2.e]);have eb:b=b':=by cases b<;>cases b'<;>first|rfl|(revert u2;decide)
  subst eb;have ev:v=v':=by
   have a1:=(eK hI b (sL (l.tx b true)) v).mp ⟨l,h1,rfl,h2⟩;have a2:=(eK hI b (sL (l.tx b true)) v').mp ⟨l',g1,u3.symm,g2⟩;rw[a1]at a2;exact Option.some.inj a2
  rw[u1,u5];exact g5 (by rw[←ev];exact hm)
theorem HX{I:Iv}{S:List Nat}(hc:¬∃x∈S,C2 x=true)(p:Nat×Nat):N4 I S p↔I S=some p:=by
 constructor
 ·rintro ⟨t,e,hv⟩
  cases t with
  |lf w=>rw[←show w=S from e];exact hv
  |nd b l=>
   refine absurd ⟨cls b,?_,(V1 b).2⟩ hc;rw[←e];show cls b∈G1 b::(l.tx b true++[cls b]);simp
 ·exact λh=>⟨.lf S,rfl,h⟩
theorem HY{made:List (Nat×Nat)}{S pre inr post:List Nat}{b:Bool}{v:Nat×Nat}(hm:cC made.length S)(c:Cut S pre inr post (G1 b) (cls b))(hv:F7 (C5 made) b (O2 (sL inr)) Str.empty=some v):
  cC (made.length+1) (pre++(B8 made.length++post))/\∀p,N4 (C5 made) S p↔N4 (C5 (made++[(v.1+1,v.2+1)])) (pre++(B8 made.length++post)) p:=by
 have hI:=nZ made;obtain⟨l,l1,l2,l3⟩:=(eK hI b (sL inr) v).mpr hv;have l2:l.tx b true=inr:=l2;obtain⟨ts,t1,t2⟩:=hm;have no:eL (G1 b)/\eL (cls b):=by cases b<;>exact⟨⟨!3,!3,!3⟩,⟨!3,!3,!3⟩⟩
 obtain⟨P,R,r1,r2,r3⟩:=iV no.1 (t1.trans c.e);obtain⟨J,Q,q1,q2,q3⟩:=iV no.2 r3;have okP:∀t∈P,t.Ok made.length:=λt h=>t2 t (by rw[r1];exact mem_append_left _ h)
 have okQ:∀t∈Q,t.Ok made.length:=λt h=>t2 t (by rw[r1,q1];exact mem_append_right _ (mem_cons_of_mem _ (mem_append_right _ (mem_cons_of_mem _ h))))
 have mono:∀{t:Tk},t.Ok made.length->t.Ok (made.length+1):=λ{t} h=>by
  cases t with
  |sg c=>exact h
  |mk j=>have:j<made.length:=h;show j<made.length+1;omega
 refine⟨⟨P++(.mk made.length::Q),?_,λt h=>?_⟩,λp=>⟨λh=>?_,λh=>?_⟩⟩
 ·rw[bZ,P0,r2,q3]
  rfl
 ·rcases mem_append.mp h with h|h
  ·exact mono (okP t h)
  ·rcases mem_cons.mp h with rfl|h
   ·exact lt_succ_self _
   ·exact mono (okQ t h)
 ·obtain⟨b',l',pre',post',v',g1,g2,g3,g4⟩:=oE hI h ⟨cls b,by rw[c.e];simp,(V1 b).2⟩
  obtain⟨u1,u2,u3,u4,u5⟩:=nX c.h1 c.h2 c.o c.c g3.h1 g3.h2 g3.o g3.c (by rw[←c.e,←g3.e]);have eb:b=b':=by cases b<;>cases b'<;>first|rfl|(revert u2;decide)
  subst eb;have ev:v=v':=by
   have a2:=(eK hI b (sL inr) v').mp ⟨l',g1,u3.symm,g2⟩;rw[hv]at a2;exact Option.some.inj a2
  subst ev;rw[u1,u5];exact g4 _ _ (λw p h=>HU made _ h) (yN made _)
 ·have e:S=C4 P++((Tr.nd b l).tx++C4 Q):=by
   rw[c.e,r2,q3];show _=pre++(G1 b::(l.tx b true++[cls b])++post);rw[l2];simp
  rw[e];refine HQ (m:=made.length) (I':=C5 (made++[(v.1+1,v.2+1)])) (by have:=yM (made++[(v.1+1,v.2+1)]);rwa [length_append]at this) ?_ (λw hw=>yO made _ hw) okP okQ (by rw[r2,q3];exact h);rw[yN];show(l.val (C5 made) b []).map _=_;rw[l3];rfl
theorem yX{made:List (Nat×Nat)}{S pre inr post:List Nat}{o c:Nat}(h:Cut S pre inr post o c)(hn:∀b,o=G1 b->c=cls b->F7 (C5 made) b (O2 (sL inr)) Str.empty=none)(p:Nat×Nat):¬N4 (C5 made) S p:=λhv=>by
 have hI:=nZ made;obtain⟨b',l',pre',post',v',g1,g2,g3,g4⟩:=oE hI hv ⟨c,by rw[h.e];simp,h.c⟩;obtain⟨u1,u2,u3,u4,u5⟩:=nX h.h1 h.h2 h.o h.c g3.h1 g3.h2 g3.o g3.c (by rw[←h.e,←g3.e]);have a1:=hn b' u2 u4;rw[(eK hI b' (sL inr) v').mp ⟨l',g1,u3.symm,g2⟩]at a1;cases a1
theorem HZ{I:Iv}(hI:W7 I){a b:List Nat}{c:Nat}(h1:∀x∈a,G9 x=false)(h0:∀x∈a,C2 x=false)(hc:C2 c=true)(p:Nat×Nat):¬N4 I (a++c::b) p:=λhv=>by
 obtain⟨b',l',pre',post',v',g1,g2,g3,g4⟩:=oE hI hv ⟨c,!2,hc⟩;have e:a++c::b=(pre'++G1 b'::l'.tx b' true)++cls b'::post':=by rw[g3.e];simp
 obtain⟨e1,_⟩:=iT (q:=C2) h0 (λx hx=>by
  rcases mem_append.mp hx with hx|hx
  ·exact g3.h1 x hx
  ·rcases mem_cons.mp hx with rfl|hx
   ·cases b'<;>decide
   ·exact(g3.h2 x hx).1) hc (V1 b').2 e
 have:=h1 (G1 b') (by rw[e1];simp);rw[(V1 b').1]at this;cases this
mutual
def Th.tr:Th->Tr
 |.num i=>.lf (nT i).cps.toList
 |.word x=>.lf x.cps.toList
 |.row l=>.nd false l.tr
 |.dic l=>.nd true l.tr
def Ts.tr:Ts->Trs
 |.nil=>.nil
 |.cons k t r=>.cons k.cps.toList t.tr r.tr
end
mutual
theorem oF:∀t:Th,t.tr.tx=t.tx
 |.num i=>rfl
 |.word x=>rfl
 |.row l=>by show 91::(l.tr.tx false true++[93])=91::(l.txR true++[93]);rw[yY l true]
 |.dic l=>by show 123::(l.tr.tx true true++[125])=123::(l.txD true++[125]);rw[yZ l true]
theorem yY:∀(l:Ts)(f:Bool),l.tr.tx false f=l.txR f
 |.nil,_=>rfl
 |.cons k t r,f=>by
  show D1 f++([]++(t.tr.tx++r.tr.tx false false))=(if f then[]else[44,32])++(t.tx++r.txR false);rw[oF t,yY r false];rfl
theorem yZ:∀(l:Ts)(f:Bool),l.tr.tx true f=l.txD f
 |.nil,_=>rfl
 |.cons k t r,f=>by
  show D1 f++((k.cps.toList++[58,32])++(t.tr.tx++r.tr.tx true false))=(if f then[]else[44,32])++(k.cps.toList++58::32::(t.tx++r.txD false));rw[oF t,yZ r false];unfold D1;simp
end
theorem zA{w:Str}(h:C7 w=true∨J2 w=true):C5 [] w.cps.toList=some (1,1):=by
 have hw:C7 (sL w.cps.toList)=true∨J2 (sL w.cps.toList)=true:=by rw[O0];exact h
 rw[Z3,if_pos hw];rintro ⟨k,e⟩;have:=(eJ hw).2 35 (by rw[e];exact mem_cons_self);omega
mutual
theorem oG:∀t:Th,t.Wf->t.tr.val (C5 [])=some (t.size,t.dp)
 |.num i,h=>zA (.inr (mZ h))
 |.word x,h=>zA (.inl h)
 |.row l,h=>by
  show(l.tr.val (C5 []) false []).map _=_;rw[zB l h []];rfl
 |.dic l,h=>by
  show(l.tr.val (C5 []) true []).map _=_;rw[show([]:List Nat)=Str.empty.cps.toList from rfl,zC l Str.empty h];rfl
theorem zB:∀l:Ts,l.WfR->∀last,l.tr.val (C5 []) false last=some (l.size,l.dp)
 |.nil,_,_=>rfl
 |.cons k t r,h,last=>by
  obtain⟨rfl,h1,h2⟩:=h;exact eI rfl (oG t h1) (zB r h2 _)
theorem zC:∀(l:Ts)(last:Str),l.WfD last->l.tr.val (C5 []) true last.cps.toList=some (l.size,l.dp)
 |.nil,_,_=>rfl
 |.cons k t r,last,h=>by
  obtain⟨k1,k2,h1,h2⟩:=h;refine eI ?_ (oG t h1) (zC r k h2);show(C7 (sL k.cps.toList)&&C3 (sL last.cps.toList) (sL k.cps.toList))=true;rw[O0,O0,k1,k2];rfl
end
theorem Ia{w:List Nat}{p:Nat×Nat}(h:C5 [] w=some p):∃t:Th,t.Wf/\t.tx=w/\p=(t.size,t.dp):=by
 by_cases hk:∃k,w=B8 k
 ·obtain⟨k,rfl⟩:=hk
  rw[aM]at h;simp at h
 ·rw[Z3 [] hk]at h
  split at h
  ·rename_i hw
   cases h;rcases hw with hw|hw
   ·exact⟨.word (sL w),hw,rfl,rfl⟩
   ·obtain⟨n,hn,e,_⟩:=dX hw
    exact⟨.num n,hn,by show(nT n).cps.toList=w;rw[←e],rfl⟩
  ·cases h
mutual
theorem oH:∀(t:Tr){p:Nat×Nat},t.val (C5 [])=some p->∃T:Th,T.Wf/\T.tx=t.tx/\p=(T.size,T.dp)
 |.lf w,p,h=>Ia h
 |.nd b l,p,h=>by
  obtain⟨q,hq,rfl⟩:=Option.map_eq_some_iff.mp (show(l.val (C5 []) b []).map _=some p from h);cases b with
  |false=>
   obtain⟨T,h1,h2,rfl⟩:=zD l hq;exact⟨.row T,h1,by show 91::(T.txR true++[93])=91::(l.tx false true++[93]);rw[h2 true],rfl⟩
  |true=>
   obtain⟨T,h1,h2,rfl⟩:=zE l Str.empty hq;exact⟨.dic T,h1,by show 123::(T.txD true++[125])=123::(l.tx true true++[125]);rw[h2 true],rfl⟩
theorem zD:∀(l:Trs){last:List Nat}{p:Nat×Nat},l.val (C5 []) false last=some p->∃T:Ts,T.WfR/\(∀f,T.txR f=l.tx false f)/\p=(T.size,T.dp)
 |.nil,last,p,h=>⟨.nil,trivial,λ_=>rfl,(Option.some.inj h).symm⟩
 |.cons k t r,last,p,h=>by
  obtain⟨hf,p1,p2,h1,h2,rfl⟩:=aK h;obtain⟨T,a1,a2,rfl⟩:=oH t h1;obtain⟨R,b1,b2,rfl⟩:=zD r h2;refine⟨.cons Str.empty T R,⟨rfl,a1,b1⟩,λf=>?_,rfl⟩;show(if f then[]else[44,32])++(T.tx++R.txR false)=D1 f++([]++(t.tx++r.tx false false));rw[a2,b2 false];rfl
theorem zE:∀(l:Trs)(last:Str){p:Nat×Nat},l.val (C5 []) true last.cps.toList=some p->∃T:Ts,T.WfD last/\(∀f,T.txD f=l.tx true f)/\p=(T.size,T.dp)
 |.nil,last,p,h=>⟨.nil,trivial,λ_=>rfl,(Option.some.inj h).symm⟩
 |.cons k t r,last,p,h=>by
  obtain⟨hf,p1,p2,h1,h2,rfl⟩:=aK h;obtain⟨k1,k2⟩:=yT hf;rw[O0]at k2;obtain⟨T,a1,a2,rfl⟩:=oH t h1;obtain⟨R,b1,b2,rfl⟩:=zE r (sL k) h2;refine⟨.cons (sL k) T R,⟨k1,k2,a1,b1⟩,λf=>?_,rfl⟩;show(if f then[]else[44,32])++(k++58::32::(T.tx++R.txD false))=D1 f++((k++[58,32])++(t.tx++r.tx true false));rw[a2,b2 false];unfold D1;simp
end
theorem zF(S:List Nat)(p:Nat×Nat):N4 (C5 []) S p↔∃t:Th,t.tx=S/\t.Wf/\p=(t.size,t.dp):=by
 constructor
 ·rintro ⟨t,e,hv⟩
  obtain⟨T,h1,h2,h3⟩:=oH t hv;exact⟨T,by rw[h2,e],h1,h3⟩
 ·rintro ⟨t,e,hw,rfl⟩
  exact⟨t.tr,by rw[oF,e],oG t hw⟩
def W8(S:List Nat):Prop:=∃t:Th,t.tx=S/\t.Wf/\t.size<=100/\t.dp<=20
theorem iX(S:List Nat):W8 S↔∃p,N4 (C5 []) S p/\p.1<=100/\p.2<=20:=by
 constructor
 ·rintro ⟨t,h1,h2,h3,h4⟩
  exact⟨_,(zF S _).mpr ⟨t,h1,h2,rfl⟩,h3,h4⟩
 ·rintro ⟨p,h,h3,h4⟩
  obtain⟨t,h1,h2,rfl⟩:=(zF S p).mp h;exact⟨t,h1,h2,h3,h4⟩
end Rg
namespace Rg
open PySem PySem.SeqAt L2
section
variable{P:Program}{w:World}{H:Hp}{s:Shared}{A:Around}(hok:HOk P w H s.heap)
include hok
end
end Rg
namespace Rg
open PySem PySem.SeqAt
open AutoSeq1 (wpAny_loadPart')
open MeetsSeq MeetsSeq2 MeetsSeq3 SeqRoads2
def zG(A:Around)(s:Shared)(u v:Value)(b:Bool):Prop:=
 ∀(prog:Program)(w:World)(E:Value->Shared->Prop)(Q:Value->Shared->Prop),Q (.bool b) s->wpAny (model prog w) A (richCompare .LtE u v) Q E s
def eM(A:Around)(s:Shared):List Value->List Value->Bool->Prop
 |[],_,r=>r=true
 |_::_,[],r=>r=false
 |x::xs,y::ys,r=>(EqAt A s x y true/\eM A s xs ys r)∨(EqAt A s x y false/\zG A s x y r)
section
variable{l b:Addr}{items items2:Array Value}{n n2:Nat}{dd dd2:Option Addr}{sl sl2:Array (Option Value)}{r:Bool}
theorem Ib:Meets (Builtin.«tuple.__le__» ⟨[.ref l,.ref b],[]⟩)
   (λA R s=>s.heap.get? l=some {cls:=.type "tuple",dict:=dd,data:=.seq items n,slots:=sl}/\s.heap.get? b=some {cls:=.type "tuple",dict:=dd2,data:=.seq items2 n2,slots:=sl2}/\
    eM A.in1 s items.toList items2.toList r/\R (.ok (.ret (.bool r))) s):=
 .of_wp λprog w A R s h=>by
  obtain⟨hp,g,d,tk,os⟩:=s;obtain⟨hl,hb,hS,h⟩:=h;have f2:=AutoSeq1.sub_tuple_tuple
  wp_walk using wpAny_loadPart' hl,wpAny_loadPart' hb,wpAny_forIn_list _ (λE3 b s'=>b.1=none/\s'=⟨hp,g,d,tk,os⟩/\∃(vs ws:List Value),E3=vs.zip ws/\
   eM A.in1 ⟨hp,g,d,tk,os⟩ vs ws r/\vs.length+items2.size=ws.length+items.size) _
  case turn=>
   rintro ⟨y,x⟩ E3 b s' ⟨hb',rfl,vs,ws,hz,hS,hlen⟩;cases vs with
   |nil=>rw[zip_nil_left]at hz;cases hz
   |cons a vs=>
    cases ws with
    |nil=>rw[List.zip_nil_right]at hz;cases hz
    |cons c ws=>
     rw[zip_cons_cons]at hz;injection hz with hyx hrest
     injection hyx with hy hx
     subst hy hx;simp only[length_cons]at hlen;rcases(show(EqAt A.in1 ⟨hp,g,d,tk,os⟩ y x true/\eM A.in1 ⟨hp,g,d,tk,os⟩ vs ws r)∨(EqAt A.in1 ⟨hp,g,d,tk,os⟩ y x false/\zG A.in1 ⟨hp,g,d,tk,os⟩ y x r)from hS)with⟨he,hS⟩|⟨he,hS⟩
     ·refine wpAny_bind (he prog w _ _ ?_)
      wp_walk
      exact⟨rfl,rfl,_,_,hrest,hS,!1⟩
     ·refine wpAny_bind (he prog w _ _ ?_)
      have hri:=hS prog w
      wp_walk using hri
      exact⟨_,rfl,h⟩
  case fin=>
   rintro ⟨b1,b2⟩ s' ⟨hb',rfl,vs,ws,hz,hS,hlen⟩;simp only at hb';subst hb';have hv:r=decide (items.size<=items2.size):=by
    cases vs with
    |nil=>
     simp only[List.length_nil]at hlen;exact(show r=true from hS).trans (decide_eq_true (!1)).symm
    |cons a vs=>
     cases ws with
     |nil=>
      simp only[List.length_nil,length_cons]at hlen;exact(show r=false from hS).trans (decide_eq_false (!1)).symm
     |cons c ws=>
      rw[zip_cons_cons]at hz;cases hz
   rw[hv]at h
   wp_walk
   exact⟨_,rfl,by simpa [Builtin.Tuple.tupleCompareSizes]using h⟩
  case h=>
   exact⟨rfl,rfl,items.toList,items2.toList,rfl,hS,by rw[Array.length_toList,Array.length_toList];omega⟩
end
section
variable{A:Around}{s:Shared}
theorem Ic{x y:Str}{a b c d:Tok}:eM A s [Value.int (x.length:Nat) a,.str x b] [.int (y.length:Nat) c,.str y d] (!C3 y x):=by
 have e:(!C3 y x)=(O5 x y != .gt):=by
  unfold C3;rw[vR];cases O5 x y<;>rfl
 rw[e];unfold O5;have h1:=(ElC.int (A:=A) (s:=s) (x.length:Nat) (y.length:Nat) a c).1;cases ei:K7 (x.length:Int) y.length with
 |eq=>
  rw[ei]at h1;refine .inl ⟨h1,?_⟩;have h2:=(ElC.str (A:=A) (s:=s) x y b d).1;cases es:N7 x y with
  |eq=>rw[es]at h2;exact .inl ⟨h2,rfl⟩
  |lt=>
   rw[es]at h2;refine .inr ⟨h2,λprog w E Q q=>?_⟩;refine(PySem.P.le_str ?_:wpAny (model prog w) A (compareOp .LtE (.str x b) (.str y d)) Q E s);have n:¬y.cps.toList<x.cps.toList:=λh=>by
    have:=lV x y;rw[es]at this;unfold N7 at this;split at this
    ·cases this
    ·cases this
   rw[decide_eq_false n];exact q
  |gt=>
   rw[es]at h2;refine .inr ⟨h2,λprog w E Q q=>?_⟩;refine(PySem.P.le_str ?_:wpAny (model prog w) A (compareOp .LtE (.str x b) (.str y d)) Q E s);have n:y.cps.toList<x.cps.toList:=by
    have:=lV x y;rw[es]at this;unfold N7 at this;split at this
    ·cases this
    ·split at this
     ·assumption
     ·cases this
   rw[decide_eq_true n];exact q
 |lt=>
  rw[ei]at h1;refine .inr ⟨h1,λprog w E Q q=>?_⟩;refine(PyProof.Rows.le_int ?_:wpAny (model prog w) A (compareOp .LtE (.int _ a) (.int _ c)) Q E s);have n:(x.length:Int)<=y.length:=by
   unfold K7 at ei;split at ei
   ·cases ei
   ·split at ei
    ·omega
    ·cases ei
  rw[decide_eq_true n];exact q
 |gt=>
  rw[ei]at h1;refine .inr ⟨h1,λprog w E Q q=>?_⟩;refine(PyProof.Rows.le_int ?_:wpAny (model prog w) A (compareOp .LtE (.int _ a) (.int _ c)) Q E s);have n:¬(x.length:Int)<=y.length:=by
   unfold K7 at ei;split at ei
   ·cases ei
   ·split at ei
    ·cases ei
    ·omega
  rw[decide_eq_false n];exact q
end
open L2 in
theorem zH{X:Cx}{k:Nat}(hr:Room k X.A):QOp X (compareOp .LtE) (λx y H Q=>∃a b f g,x=.ref a/\y=.ref b/\H a=some (.tup (M9 f))/\H b=some (.tup (M9 g))/\Q (.bl (!C3 g f)) H):=⟨by
 intro ζ s σ H x y v u Q I rx ry h;obtain⟨a,b,f,g,rfl,rfl,ha,hb,q⟩:=h;have hu:X.A.units+200<cLine:=by have z:=hr.un;omega
 cases rx;cases ry;obtain⟨_,us,ru,t1⟩:=I.hok a _ ha;obtain⟨_,ws,rw',t2⟩:=I.hok b _ hb;obtain⟨u1,u2,rfl,⟨k1,rfl⟩,⟨k2,rfl⟩⟩:=Vals.two ru;obtain⟨w1,w2,rfl,⟨k3,rfl⟩,⟨k4,rfl⟩⟩:=Vals.two rw';obtain⟨⟨cls,dd,data,sl⟩,ho,hc,n,hd⟩:=id t1;obtain⟨⟨cls2,dd2,data2,sl2⟩,ho2,hc2,n2,hd2⟩:=id t2;simp only at hc hd hc2 hd2;subst hc hd hc2 hd2;exact(richCompare_meets_room (op:=.LtE) ⟨_,ho,rfl⟩ ⟨_,ho2,rfl⟩ PySem.F.slot_tuple_le PySem.F.entry_tuple_le (PySem.F.args_tuple_le_2 _ _) (Ib (items:=#[_,_]) (items2:=#[_,_]))
  ⟨ho,ho2,Ic,(λx=>nomatch x),⟨.bl _,H,I,rfl,q⟩⟩ (!1))⟩
end Rg
namespace Rg
open PySem L2
theorem Ts.app_nil:∀l:Ts,l.app .nil=l
 |.nil=>rfl
 |.cons k t r=>congrArg (Ts.cons k t) (Ts.app_nil r)
theorem Ts.snoc_app(k:Str)(t:Th)(r:Ts):∀l:Ts,(l.snoc k t).app r=l.app (.cons k t r)
 |.nil=>rfl
 |.cons j u q=>congrArg (Ts.cons j u) (Ts.snoc_app k t r q)
end Rg
namespace Rg
open PySem PySem.W PyProof.Rows L2
theorem zI{lt:Nat->Nat->Bool}{p:Array Nat}:∀(f m:Nat),(∀j,m<=j->j<m+f->lt (p.getD j 0) (p.getD (j-1) 0)=false)->S8 lt (kas_asc p f m)=m+f
 |0,m,_=>rfl
 |f+1,m,h=>by
  show S8 lt (if lt (p.getD m 0) (p.getD (m-1) 0)=true then _ else kas_asc p f (m+1))=_;rw[h m (le_refl _) (!1),if_neg Bool.false_ne_true,zI f (m+1) λj h1 h2=>h j (!1) (!1)];omega
theorem oI{α β:Type}{lt:Nat->Nat->Bool}{f:α->KasT β}:∀{t:KasT α},S8 lt (t.bind f)=S8 lt (f (S8 lt t))
 |.ret a=>rfl
 |.ask i j g=>oI (t:=g (lt i j))
theorem Id{xs:List Str}(h:∀i,i+1<xs.length->C3 (xs.getD (i+1) Str.empty) (xs.getD i Str.empty)=false):L5 xs=xs:=by
 have e:U2 xs=List.range xs.length:=by
  unfold U2;split
  ·rfl
  ·rename_i hn
   have hg:∀j,j<xs.length->(toArray (List.range xs.length)).getD j 0=j:=λj hj=>by simp[Array.getD,hj]
   have hc:S8 (λi j=>C3 (xs.getD i Str.empty) (xs.getD j Str.empty)) (kas_count xs.length (toArray (List.range xs.length)))=(xs.length,toArray (List.range xs.length)):=by
    unfold kas_count;rw[oI,zI _ _ λj h1 h2=>?_]
    ·rw[show 1+(xs.length-1)=xs.length by omega,if_pos (!2)]
     rfl
    ·rw[hg j (!1),hg (j-1) (!1)]
     have:=h (j-1) (!1);rw[show j-1+1=j by omega]at this;exact this
   unfold kas_sort;rw[oI,hc];show(S8 _ (if xs.length<xs.length then _ else KasT.ret (toArray (List.range xs.length)))).toList=_;rw[if_neg (lt_irrefl _)];rfl
 unfold L5;rw[e,vP]
theorem oJ(a:Str):C3 a a=false:=by unfold C3;rw[vQ];rfl
theorem Ie{a b:Str}(h:C3 a b=true):C3 b a=false:=by
 unfold C3 at h ⊢;rw[vR];cases e:O5 a b<;>rw[e]at h<;>first|(cases h;done)|rfl
theorem Ig{x y:Str}:C3 x y=true↔x.length<y.length∨(x.length=y.length/\x.cps.toList<y.cps.toList):=by
 unfold C3 O5 K7 N7;by_cases e1:(x.length:Int)=y.length
 ·rw[if_pos e1]
  by_cases e2:x=y
  ·rw[if_pos e2,e2]
   constructor
   ·intro h;cases h
   ·rintro (h|⟨_,h⟩)
    ·omega
    ·exact absurd h (List.lt_irrefl _)
  ·rw[if_neg e2]
   by_cases e3:x.cps.toList<y.cps.toList
   ·rw[if_pos e3]
    exact⟨λ_=>.inr ⟨!1,e3⟩,λ_=>rfl⟩
   ·rw[if_neg e3]
    constructor
    ·intro h;cases h
    ·rintro (h|⟨_,h⟩)
     ·omega
     ·exact absurd h e3
 ·rw[if_neg e1]
  by_cases e3:(x.length:Int)<y.length
  ·rw[if_pos e3]
   exact⟨λ_=>.inl (!1),λ_=>rfl⟩
  ·rw[if_neg e3]
   constructor
   ·intro h;cases h
   ·rintro (h|⟨h,_⟩)<;>omega
theorem oK{a b c:Str}(h1:C3 a b=true)(h2:C3 b c=true):C3 a c=true:=by
 rw[Ig]at h1 h2 ⊢;rcases h1 with h1|⟨h1,g1⟩<;>rcases h2 with h2|⟨h2,g2⟩
 ·exact .inl (!1)
 ·exact .inl (!1)
 ·exact .inl (!1)
 ·exact .inr ⟨!1,List.lt_trans g1 g2⟩
theorem oM:∀{l:Ts}{last:Str},l.WfD last->(∀k∈l.keys,C3 last k=true/\C7 k=true)/\l.keys.Nodup/\∀i,i+1<l.keys.length->C3 (l.keys.getD (i+1) Str.empty) (l.keys.getD i Str.empty)=false
 |.nil,_,_=>⟨λk hk=>(by cases hk),nodup_nil,λi h=>(by cases h)⟩
 |.cons k t r,last,h=>by
  obtain⟨h1,h2,_,h3⟩:=h;obtain⟨g1,g2,g3⟩:=oM h3;refine⟨λj hj=>?_,nodup_cons.mpr ⟨λhm=>?_,g2⟩,λi hi=>?_⟩
  ·rcases mem_cons.mp (show j∈k::r.keys from hj)with rfl|hj
   ·exact⟨h2,h1⟩
   ·exact⟨oK h2 (g1 j hj).1,(g1 j hj).2⟩
  ·have:=(g1 k hm).1
   rw[oJ]at this;cases this
  ·cases i with
   |zero=>
    show C3 ((k::r.keys).getD 1 Str.empty) k=false;have hl:0<r.keys.length:=by have:0+1<(k::r.keys).length:=hi;rw[length_cons]at this;omega
    cases e:r.keys with
    |nil=>rw[e]at hl;cases hl
    |cons j q=>exact Ie (g1 j (by rw[e];exact mem_cons_self)).1
   |succ i=>exact g3 i (by have:i+1+1<(k::r.keys).length:=hi;rw[length_cons]at this;omega)
theorem cD{l:Ts}{last:Str}(h:l.WfD last):F6 (.dic l)=l.toL:=by
 obtain⟨_,h2,h3⟩:=oM h;show(L5 l.keys).map (λk=>(k,l.fld k))=_;rw[Id h3,lY l h2]
mutual
def Th.F63:Th->Prop
 |.num _=>True
 |.word _=>True
 |.row l=>l.F63
 |.dic l=>l.len<=63/\l.F63
def Ts.F63:Ts->Prop
 |.nil=>True
 |.cons _ t r=>t.F63/\r.F63
end
structure Th.Rd(t:Th):Prop where
 wf:t.Wf
 f63:t.F63
theorem zJ:∀{l:Ts},l.WfR->l.F63->∀p∈l.toL,p.2.Rd/\p.1=Str.empty
 |.nil,_,_,p,h=>by cases h
 |.cons k t r,hw,hf,p,h=>by
  obtain⟨rfl,h1,h2⟩:=hw;rcases mem_cons.mp h with rfl|z
  ·exact⟨⟨h1,hf.1⟩,rfl⟩
  ·exact zJ h2 hf.2 p z
theorem oO:∀{l:Ts}{last:Str},l.WfD last->l.F63->∀p∈l.toL,p.2.Rd/\C7 p.1=true
 |.nil,_,_,_,p,h=>by cases h
 |.cons k t r,last,hw,hf,p,h=>by
  obtain⟨h0,_,h1,h2⟩:=hw;rcases mem_cons.mp h with rfl|z
  ·exact⟨⟨h1,hf.1⟩,h0⟩
  ·exact oO h2 hf.2 p z
theorem oQ{t:Th}(h:t.Rd):∀p∈F6 t,p.2.Rd:=by
 cases t with
 |num i=>intro p hp;cases hp
 |word x=>intro p hp;cases hp
 |row l=>
  intro p hp;obtain⟨q,h1,rfl⟩:=mem_map.mp hp;exact(zJ h.wf h.f63 q h1).1
 |dic l=>
  intro p hp;rw[cD h.wf]at hp;exact(oO h.wf h.f63.2 p hp).1
theorem oR{t:Th}(h:t.Rd):t.size=1+((F6 t).map λp=>p.2.size).sum:=by
 cases t with
 |num i=>rfl
 |word x=>rfl
 |row l=>
  show l.size+1=1+((l.toL.map λp=>(Str.empty,p.2)).map λp=>p.2.size).sum;rw[map_map,lX,Nat.add_comm];rfl
 |dic l=>
  rw[cD h.wf];show l.size+1=1+_;rw[lX,Nat.add_comm]
theorem zK:∀l:Ts,l.len<=l.size
 |.nil=>le_refl _
 |.cons k t r=>by
  have:=zK r;have:=vS t;show r.len+1<=t.size+r.size;omega
end Rg
namespace Rg
open PySem PySem.W PySem.Spec PyProof.Rows L2
section
variable{X:Cx}{tg elt iter:Expr}{x:Str}{px pos:Pos}{scope:Scope}{fr:List (Str×Nat)}{wi:TI}{te:TE}
theorem Ih(hi:PI X tg iter wi):PI X tg iter (fun σ H R=>∃R0:It->Hp->Prop,wi σ H R0/\∀J H1,R0 J H1->R J H1):=fun ζ s σ H R I h=>by
 obtain⟨R0,h1,h2⟩:=h;refine A9 (hi ζ s σ H R0 I h1) λv s1 h3=>A9 h3 λu s2 h4=>?_
 obtain⟨it,fp,tn,J,H2,e,I2,T,st2,f2,w⟩:=h4;exact⟨it,fp,tn,J,H2,e,I2,T,st2,f2,h2 _ _ w⟩
theorem zL(hc:X.calm=true)(hi:PI X (.Name x px) iter wi)(S:LcOk X x fr scope)(he:∀fp C s H,PE (ED X x fr scope fp C s H) elt te)
  (hs:∀v,foldedSetIterable iter X.env v=pure v:=by intro _;rfl):PE X (.ListComp elt [⟨.Name x px,iter,[],0⟩] scope pos) (EE fr wi te):=fun ζ s σ H Q I h=>by
 have S':LcOkG X [x] fr scope:=⟨S.nocell,S.kind,S.nm,λy hy=>by rw[mem_singleton.mp hy];exact S.hx,S.nd,S.free,S.fr⟩;refine wA (tt:=bJ) hc (.inl rfl) (Ih hi) S' (λ_ _ _ _=>vJ) he hs ζ s σ H Q I ⟨_,h,λJ H1 h1=>?_⟩;obtain⟨W,h0,hst⟩:=h1;refine⟨W,h0,λi m ys H w=>(hst i m ys H w).imp (λz=>z) λz=>?_⟩;obtain⟨g,l,N,hN,y⟩:=z;exact⟨g,l,N,λ_=>False,hN,λ_ f=>f.elim,λv H' hy=>⟨[v],rfl,rfl,by unfold bJ;dsimp only;rw[if_pos rfl];exact y v H' hy⟩⟩
end
end Rg
namespace Rg
open PySem L2
def G2(b:Bool):List (Str×Th)->Bool->List Th
 |[],_=>[]
 |c::r,f=>(if f then[]else[.word ", "])++((if b then[.word (c.1++": ")]else[])++(c.2::G2 b r false))
def T3:Th->List Th
 |.row l=>.word "["::(G2 false (F6 (.row l)) true++[.word "]"])
 |.dic l=>.word "{"::(G2 true (F6 (.dic l)) true++[.word "}"])
 |t=>[t]
def J4(cs:List Th):List Nat:=cs.flatMap Th.tx
theorem W9(c:Th)(cs:List Th):J4 (c::cs)=c.tx++J4 cs:=by unfold J4;rw[flatMap_cons]
theorem eN(cs ds:List Th):J4 (cs++ds)=J4 cs++J4 ds:=by unfold J4;rw[flatMap_append]
theorem zM:J4 []=[]:=rfl
theorem zN:∀(l:Ts)(f:Bool),J4 (G2 false (l.toL.map λp=>(Str.empty,p.2)) f)=l.txR f
 |.nil,_=>rfl
 |.cons k t r,f=>by
  show J4 ((if f then[]else[.word ", "])++([]++(t::G2 false (r.toL.map λp=>(Str.empty,p.2)) false)))=(if f then[]else[44,32])++(t.tx++r.txR false);rw[eN,nil_append,W9,zN r false];cases f<;>rfl
theorem zO:∀(l:Ts)(f:Bool),J4 (G2 true l.toL f)=l.txD f
 |.nil,_=>rfl
 |.cons k t r,f=>by
  show J4 ((if f then[]else[.word ", "])++([.word (k++": ")]++(t::G2 true r.toL false)))=(if f then[]else[44,32])++(k.cps.toList++58::32::(t.tx++r.txD false));rw[eN,List.singleton_append,W9,W9,zO r false];have e:(Th.word (k++": ")).tx=k.cps.toList++[58,32]:=by
   show(k++": ").cps.toList=_;rw[PyProof.Rows.cps_toList_append];rfl
  rw[e];cases f with
  |true=>simp[J4,Th.tx]
  |false=>
   show([44,32]++[])++_=_;simp
theorem zP{t:Th}(h:t.Rd):J4 (T3 t)=t.tx:=by
 cases t with
 |num i=>show J4 [Th.num i]=_;rw[W9,zM,append_nil]
 |word x=>show J4 [Th.word x]=_;rw[W9,zM,append_nil]
 |row l=>
  show J4 (.word "["::(G2 false (l.toL.map λp=>(Str.empty,p.2)) true++[.word "]"]))=_;rw[W9,eN,zN];rfl
 |dic l=>
  show J4 (.word "{"::(G2 true (F6 (.dic l)) true++[.word "}"]))=_;rw[cD h.wf,W9,eN,zO];rfl
theorem zQ(b:Bool)(c:Str×Th):∀(cs:List (Str×Th))(f:Bool),G2 b (cs++[c]) f=G2 b cs f++((if(f&&cs.isEmpty)=true then[]else[.word ", "])++((if b then[.word (c.1++": ")]else[])++[c.2]))
 |[],f=>by cases f<;>rfl
 |d::cs,f=>by
  show(if f then[]else[.word ", "])++((if b then[.word (d.1++": ")]else[])++(d.2::G2 b (cs++[c]) false))=((if f then[]else[.word ", "])++((if b then[.word (d.1++": ")]else[])++(d.2::G2 b cs false)))++_;rw[zQ b c cs false];simp
theorem Ii{b:Bool}{cs:List (Str×Th)}{f:Bool}:(G2 b cs f).isEmpty=cs.isEmpty:=by
 cases cs with
 |nil=>rfl
 |cons c r=>show((if f then[]else[Th.word ", "])++((if b then[Th.word (c.1++": ")]else[])++(c.2::G2 b r false))).isEmpty=false;simp
mutual
def Th.wt:Th->Nat
 |.num _=>1
 |.word _=>1
 |.row l=>l.wt+3
 |.dic l=>l.wt+3
def Ts.wt:Ts->Nat
 |.nil=>0
 |.cons _ t r=>t.wt+r.wt+2
end
def J5(cs:List Th):Nat:=(cs.map Th.wt).sum
theorem aN(cs ds:List Th):J5 (cs++ds)=J5 cs+J5 ds:=by unfold J5;rw[map_append,List.sum_append]
theorem oS(c:Th)(cs:List Th):J5 (c::cs)=c.wt+J5 cs:=rfl
theorem Ij(cs:List Th):J5 cs.reverse=J5 cs:=by unfold J5;rw[List.map_reverse];exact(List.reverse_perm _).sum_nat
theorem oU(b:Bool):∀(cs:List (Str×Th))(f:Bool),J5 (G2 b cs f)<=(cs.map λp=>p.2.wt+2).sum
 |[],_=>le_refl _
 |c::r,f=>by
  have:=oU b r false;show J5 ((if f then[]else[.word ", "])++((if b then[.word (c.1++": ")]else[])++(c.2::G2 b r false)))<=(c.2.wt+2)+(r.map λp=>p.2.wt+2).sum;rw[aN,aN,oS];have h1:J5 (if f then[]else[.word ", "])<=1:=by cases f<;>decide
  have h2:J5 (if b then[Th.word (c.1++": ")]else[])<=1:=by
   cases b with
   |true=>show 1+0<=1;decide
   |false=>show 0<=1;decide
  omega
theorem oV:∀l:Ts,(l.toL.map λp=>p.2.wt+2).sum=l.wt
 |.nil=>rfl
 |.cons k t r=>by
  show(t.wt+2)+(r.toL.map λp=>p.2.wt+2).sum=t.wt+r.wt+2;rw[oV r];omega
theorem Ik{t:Th}(h:t.Rd)(hh:(∃l,t=.row l)∨∃l,t=.dic l):J5 (T3 t)<t.wt:=by
 rcases hh with⟨l,rfl⟩|⟨l,rfl⟩
 ·have:=oU false (F6 (.row l)) true
  rw[show(F6 (.row l)).map (λp=>p.2.wt+2)=l.toL.map λp=>p.2.wt+2 by show(l.toL.map _).map _=_;rw[map_map];rfl,oV]at this;show J5 (.word "["::(G2 false (F6 (.row l)) true++[.word "]"]))<l.wt+3;rw[oS,aN];show 1+(_+1)<_;omega
 ·have:=oU true (F6 (.dic l)) true
  rw[cD h.wf,oV]at this;show J5 (.word "{"::(G2 true (F6 (.dic l)) true++[.word "}"]))<l.wt+3;rw[oS,aN,cD h.wf];show 1+(_+1)<_;omega
def Pc(c:Th):Prop:=c.Rd∨∃x:Str,c=.word x/\1<=x.length
theorem Pc.pos{c:Th}(h:Pc c):1<=c.tx.length:=by
 rcases h with h|⟨x,rfl,h⟩
 ·obtain⟨a,q,e,_⟩:=eE h.wf
  rw[e,length_cons];omega
 ·rw[A8]at h
  exact h
theorem iY:∀{cs:List Th},(∀c∈cs,Pc c)->cs.length<=(J4 cs).length
 |[],_=>zero_le _
 |c::cs,h=>by
  have h1:=(h c mem_cons_self).pos;have h2:=iY λd hd=>h d (mem_cons_of_mem _ hd)
  rw[W9,length_append,length_cons];omega
theorem zR{b:Bool}:∀{cs:List (Str×Th)}{f:Bool},(∀p∈cs,p.2.Rd)->∀c∈G2 b cs f,Pc c
 |[],_,_,c,hc=>by cases hc
 |p::r,f,h,c,hc=>by
  have hc:c∈(if f then[]else[.word ", "])++((if b then[.word (p.1++": ")]else[])++(p.2::G2 b r false)):=hc;rcases mem_append.mp hc with hc|hc
  ·cases f with
   |true=>cases hc
   |false=>exact .inr ⟨_,mem_singleton.mp hc,!0⟩
  ·rcases mem_append.mp hc with hc|hc
   ·cases b with
    |false=>cases hc
    |true=>
     refine .inr ⟨_,mem_singleton.mp hc,?_⟩;rw[A8,PyProof.Rows.cps_toList_append,length_append];show 1<=_+2;omega
   ·rcases mem_cons.mp hc with rfl|hc
    ·exact .inl (h p mem_cons_self)
    ·exact zR (λq hq=>h q (mem_cons_of_mem _ hq)) c hc
theorem zS{t:Th}(h:t.Rd):∀c∈T3 t,Pc c:=by
 have key:∀{b:Bool}{x y:Str}{cs:List (Str×Th)},1<=x.length->1<=y.length->(∀p∈cs,p.2.Rd)->∀c∈Th.word x::(G2 b cs true++[.word y]),Pc c:=λhx hy hp c hc=>by
  rcases mem_cons.mp hc with rfl|hc
  ·exact .inr ⟨_,rfl,hx⟩
  ·rcases mem_append.mp hc with hc|hc
   ·exact zR hp c hc
   ·rw[mem_singleton.mp hc]
    exact .inr ⟨_,rfl,hy⟩
 cases t with
 |num i=>intro c hc;rw[mem_singleton.mp hc];exact .inl h
 |word x=>intro c hc;rw[mem_singleton.mp hc];exact .inl h
 |row l=>exact key (!0) (!0) (oQ h)
 |dic l=>exact key (!0) (!0) (oQ h)
theorem zU:∀ps:List Str,(Str.join "" ps).cps.toList=ps.flatMap λp=>p.cps.toList
 |[]=>rfl
 |[w]=>by show w.cps.toList=_;simp
 |w::v::r=>by
  show(w++("" : Str)++Str.join "" (v::r)).cps.toList=_;rw[PyProof.Rows.cps_toList_append,PyProof.Rows.cps_toList_append,zU (v::r)];show w.cps.toList++[]++_=_;rw[append_nil];rfl
end Rg
namespace Rg
open PySem L2
theorem zV(k:Str)(t:Th)(j:Str)(u:Th)(r:Ts):Ts.put k t (.cons j u r)=if j=k then .cons j t r else .cons j u (r.put k t):=rfl
theorem oW(k:Str)(t:Th):∀l:Ts,(l.put k t).keys=if k∈l.keys then l.keys else l.keys++[k]
 |.nil=>rfl
 |.cons j u r=>by
  rw[zV];by_cases e:j=k
  ·rw[if_pos e,if_pos (by rw[←e];exact mem_cons_self)]
   rfl
  ·rw[if_neg e]
   show j::(r.put k t).keys=if k∈j::r.keys then j::r.keys else(j::r.keys)++[k]
   rw[oW k t r];by_cases m:k∈r.keys
   ·rw[if_pos m,if_pos (mem_cons_of_mem _ m)]
   ·rw[if_neg m,if_neg (λz=>by
     rcases mem_cons.mp z with z|z
     ·exact e z.symm
     ·exact m z)]
    rfl
theorem Il{k:Str}{t:Th}{l:Ts}(h:l.keys.Nodup):(l.put k t).keys.Nodup:=by
 rw[oW];by_cases m:k∈l.keys
 ·rw[if_pos m];exact h
 ·rw[if_neg m]
  exact nodup_append.mpr ⟨h,!2,λa ha b hb e=>m (by rw[mem_singleton.mp hb]at e;rw[←e];exact ha)⟩
theorem Im(k:Str)(t:Th)(l:Ts):(l.put k t).len<=l.len+1:=by
 rw[←Ts.keys_len,←Ts.keys_len,oW];by_cases m:k∈l.keys
 ·rw[if_pos m];exact le_succ _
 ·rw[if_neg m,length_append];exact le_refl _
def Ts.del(k:Str):Ts->Ts
 |.nil=>.nil
 |.cons j u r=>if j=k then r.del k else .cons j u (r.del k)
theorem RepD.noKey{H:Hp}{l:Ts}{kvs:List (B1×V)}{k:Str}(h:RepD H l kvs)(hk:¬k∈l.keys):¬(Sum.inr k:B1)∈kvs.map (·.1):=λz=>by
 rw[h.keys]at z;obtain⟨j,z1,z2⟩:=mem_map.mp z;cases z2;exact hk z1
theorem RepD.put{H:Hp}{k:Str}{t:Th}{y:V}(ht:Rep H t y):∀{l:Ts}{kvs:List (B1×V)},l.keys.Nodup->RepD H l kvs->RepD H (l.put k t) (L4 kvs (Sum.inr k) y)
 |.nil,kvs,_,h=>by rw[(h:kvs=[])];exact⟨y,[],rfl,ht,rfl⟩
 |.cons j u r,kvs,nd,h=>by
  obtain⟨n1,n2⟩:=nodup_cons.mp (show(j::r.keys).Nodup from nd);obtain⟨z,zs,rfl,h2,h3⟩:=(h:∃y ys,kvs=(Sum.inr j,y)::ys/\Rep H u y/\RepD H r ys);rw[zV];by_cases e:j=k
  ·subst e
   rw[if_pos rfl];have nk:=RepD.noKey h3 n1;have e2:L4 ((Sum.inr j,z)::zs) (Sum.inr j) y=(Sum.inr j,y)::zs:=by
    unfold L4;rw[if_pos (!2),map_cons,if_pos rfl]
    congr 1
    have:∀p∈zs,(if p.1=(Sum.inr j:B1)then(p.1,y)else p)=p:=λp hp=>if_neg λq=>nk (mem_map.mpr ⟨p,hp,q⟩)
    rw[map_congr_left this,List.map_id']
   rw[e2];exact⟨y,zs,rfl,ht,h3⟩
  ·rw[if_neg e]
   have ne:¬(Sum.inr j:B1)=Sum.inr k:=λq=>e (by injection q)
   have e2:L4 ((Sum.inr j,z)::zs) (Sum.inr k) y=(Sum.inr j,z)::L4 zs (Sum.inr k) y:=by
    unfold L4;rw[any_cons,map_cons,if_neg ne];have z0:decide ((Sum.inr j:B1)=Sum.inr k)=false:=decide_eq_false ne;show(if(decide ((Sum.inr j:B1)=Sum.inr k)||zs.any _)=true then _ else _)=_;rw[z0,Bool.false_or];by_cases a:(zs.any λkv=>decide (kv.1=(Sum.inr k:B1)))=true
    ·rw[if_pos a,if_pos a]
    ·rw[if_neg a,if_neg a];rfl
   rw[e2];exact⟨z,_,rfl,h2,RepD.put ht n2 h3⟩
end Rg
namespace Rg
open PySem PySem.W PySem.Spec PyProof.Rows L2
theorem zW:∀(l:List Str)(m:List Value),l.length=m.length->(∀(j:Nat)(x:Str)(v:Value),l[j]?=some x->m[j]?=some v->∃t,v=Value.str x t)->Vals (l.map V.str) m
 |[],[],_,_=>.nil
 |[],_::_,h,_=>by simp at h
 |_::_,[],h,_=>by simp at h
 |x::l,v::m,h,hj=>.cons (hj 0 x v rfl rfl) (zW l m (by simpa using h) λj y w h1 h2=>hj (j+1) y w (by simpa using h1) (by simpa using h2))
section
variable{X:Cx}
theorem Io(hc:X.calm=true):QC X (.type "list") (λvs H Q=>∃(a:Addr)(kvs:List (B1×V))(xs:List Str),vs=[.ref a]/\H a=some (.dK kvs)/\kvs.map (·.1)=xs.map Sum.inr/\∀l,H l=none->Q (.ref l) (upd H l (.lst (xs.map V.str)))):=⟨by
 intro ζ s σ H vs us Q I rv h;obtain⟨a,kvs,xs,rfl,ha,hkeys,q⟩:=h;obtain⟨u,rfl,ru⟩:=K9 rv;cases ru;obtain⟨zl,hd,dvs,rel,dd⟩:=aB I.hok ha;obtain⟨ep,dat⟩:=dd.dictAt;have hlen:=rel.length;have hkv:kvs.map (·.1)=dvs.map (·.1):=rel.keys;have hxl:xs.length=kvs.length:=by
  have z:=congrArg length hkeys;rw[length_map,length_map]at z;exact z.symm
 refine kdl_call (kdl_dict hd) (I.ok.hd hc) dat (by rw[←hlen];exact zl) λh' tk acc c' kp e items=>?_
 have hacc:acc.toList.length=kvs.length:=by rw[Array.length_toList,items.1,hlen]
 have rvs:Vals (xs.map V.str) acc.toList:=zW xs acc.toList (!1) λj x v q1 q2=>by
  obtain⟨k',y,e1,e2⟩:=items.2 j v (by rw[←Array.getElem?_toList];exact q2);have e3:(dvs.map (·.1))[j]?=some k':=by rw[getElem?_map,e1];rfl
  rw[←hkv,hkeys,getElem?_map,q1]at e3;have e4:Sum.inr x=k':=Option.some.inj e3;subst e4;exact Value.isStrOf_shape (x:=x) (v:=v) e2
 exact⟨.ref s.heap.objs.size,_,I.laid (t':=tk) kp (le_refl _) (show ObjOk X.prog X.w _ h' _ (.lst (xs.map V.str))from⟨by rw[length_map,hxl];exact zl,acc.toList,c',rvs,by rw[Array.toArray_toList];exact e⟩),rfl,q _ (I.hok.fresh (le_refl _))⟩⟩
variable{f:Addr}{k:Nat}{fd:FuncData}{wd:Str}{sp:Sp}
def Ip(K:Frag)(sp:Sp)(f:Addr):List V->List V->Hp->VK->Prop:=λvs zs H Q=>∃(a:Addr)(xs:List Str),vs=[.ref a]/\zs=[.ref f]/\SqL K H a (xs.map V.str)/\(∀(H':Hp)(vs:List V)(Q:VK)(E:XK),Same H H'->X3 vs H' Q E->sp vs H' Q E)/\xs.length<64/\(∀x∈xs,x.length<=1000)/\
 ∀(q:Addr)(H':Hp),Same H H'->H' q=some (.lst ((L5 xs).map V.str))->Q (.ref q) H'
theorem Iq(hc:X.calm=true)(hne:∀e s,X.xe e s->False)(F:FnOk X.prog X.w X.K X.mg X.base C6 k f fd [wd] sp)(hr:Room (k+1+1) X.A)(hb:Binds X.K fd [wd] []):gN X "sorted" [Str.ofString "key"] (Ip X.K sp f):=by
 intro ζ s σ H vs zs us ws Q I rv rz h;obtain⟨a,xs,rfl,rfl,ha,hsp,h64,hx,q⟩:=h;obtain⟨u,rfl,ru⟩:=K9 rv;obtain⟨u2,rfl,ru2⟩:=K9 rz;cases ru;cases ru2;obtain⟨its,rvs,pl,hz⟩:=I.list ha;rw[length_map]at hz;have hil:its.length=xs.length:=by rw[←rvs.length,length_map]
 show wpAny _ _ (call (.builtin "sorted") [.ref a] [(Str.ofString "key",.ref f)]) _ _ s;refine call_function_entry_kw kind_sorted plain_sorted entry_sorted (ksk_s1 _ _) ?_;unfold Builtin.«sorted»;refine wpAny_bind (m:=checkCount "sorted" 1 1 _) (wpAny_pure ?_);refine wpAny_bind (collect_list pl.isList ?_ (!1));have hk:∀b o,s.heap.get? b=some o->((s.heap.push (seqObj "list" #[] 0)).update s.heap.objs.size (Obj.mapSeq (·++its.toArray))).get? b=some o:=λb o e=>
  (Heap.get?_update_other _ _ (Ne.symm (ne_of_lt (Heap.lt_size e)))).trans (Heap.get?_push_of_some _ e)
 generalize (s.heap.push (seqObj "list" #[] 0)).update s.heap.objs.size (Obj.mapSeq (·++its.toArray))=h1 at hk ⊢;have I1:Inv X ζ σ H {s with heap:=h1,toks:=s.toks}:=I.kept hk;refine wpAny_bind (wpAny_newList ?_ (!1));have I2:Inv X ζ σ H {s with heap:=h1.push {cls:=.type "list",data:=.seq its.toArray},toks:=s.toks}:=I1.kept λb o z=>Heap.get?_push_of_some _ z
 have fD:G6 X ζ H h1.objs.size:=I1.fpOk (le_refl _) (I1.hok.fresh (le_refl _));have hD:(h1.push {cls:=.type "list",data:=.seq its.toArray}).get? h1.objs.size=some (seqObj "list" (toArray its) 0):=Heap.get?_push_size _ rfl;refine wpAny_bind (wpAny_holding (wpAny_call_entry_kw slot_list_sort ⟨_,hD,rfl⟩ entry_list_sort ?body (ksk_l1 _ _)))
 case body=>
  show wpAny (model X.prog X.w) X.A.in1.in1 (Builtin.«list.sort» ⟨[.ref h1.objs.size],[(Str.ofString "key",.ref f)]⟩) _ _ _;rw[ksk_t1];refine wV (X:=bH X) (uV I2) hD fD rvs hx h64 hne F hsp hr.in1.in1 hb λs' H' us' n' I' sm hn' hD' rv'=>?_
  refine⟨_,rfl,wpAny_pure ⟨_,rfl,?_⟩⟩;have fD':G6 X ζ H' h1.objs.size:=⟨hn',fD.2⟩;refine⟨.ref h1.objs.size,upd H' h1.objs.size (.lst ((L5 xs).map V.str)),gM (uW I') fD' I1.sz ?_,rfl,q _ _ (sm.trans (B2 hn' _)) A6⟩;refine⟨by rw[length_map,(gT xs).length_eq];omega,us',n',rv',hD'⟩
end
end Rg
namespace Rg
open PySem PySem.W PySem.Spec PyProof.Rows L2
def aO(c':Addr)(q:Str):HO:=.ext λh=>h.CodeRec (.ref c') q
def cE(f c':Addr)(q:Str)(params:Arguments)(body:PySem.Expr)(scope:Scope):HO:=.ext λh=>∃pm ctv,h.get? f=some (kla_obj "<lambda>" q params body scope [] pm c' ctv)
def BM(mg:Str->Option Value)(h:Heap):Prop:=∃bm ob,mg "__builtins__"=some (.ref bm)/\bm≠builtinsNs/\h.get? bm=some ob/\ob.cls=.type "module"/\ob.dict=some builtinsNs/\ob.data=.plain
def SameX(H H':Hp):Prop:=∀b o,H b=some o->(∀ps,o≠.tbl ps)->H' b=some o
theorem Same.x{H H':Hp}(h:Same H H'):SameX H H':=λb o e _=>h b o e
theorem SameX.refl(H:Hp):SameX H H:=λ_ _ e _=>e
theorem SameX.trans{H H1 H2:Hp}(a:SameX H H1)(b:SameX H1 H2):SameX H H2:=λc o e n=>b c o (a c o e n) n
def TabOk(P:Addr)(pos:Pos)(q:Str)(H:Hp):Prop:=H P=some (.tbl #[])∨∃c',H P=some (.tbl #[rawInt pos.line,rawInt pos.col,.ref c'])/\H c'=some (aO c' q)
theorem TabOk.mono{P:Addr}{pos:Pos}{q:Str}{H H':Hp}(h:TabOk P pos q H)(e:Same H H'):TabOk P pos q H':=by
 rcases h with h|⟨c',h1,h2⟩
 ·exact .inl (e _ _ h)
 ·exact .inr ⟨c',e _ _ h1,e _ _ h2⟩
theorem Ir{P:Program}{w:World}{H:Hp}{h:Heap}{c':Addr}{q:Str}(hr:h.CodeRec (.ref c') q):ObjOk P w H h c' (aO c' q):=by
 obtain⟨c₂,oc,vs,t,e2,hoc,hd,hv⟩:=hr;cases e2;refine⟨⟨_,oc,vs,t,rfl,hoc,hd,hv⟩,⟨oc,hoc⟩,λh1 h2 ⟨c₂,oc,vs,t,e2,hoc,hd,hv⟩ k=>?_⟩;cases e2;exact⟨_,oc,vs,t,rfl,k _ hoc,hd,hv⟩
theorem zX{P:Program}{w:World}{H:Hp}{h:Heap}{f c':Addr}{q:Str}{params:Arguments}{body:PySem.Expr}{scope:Scope}{pm ctv:Value}(e:h.get? f=some (kla_obj "<lambda>" q params body scope [] pm c' ctv)):
  ObjOk P w H h f (cE f c' q params body scope):=
 ⟨⟨pm,ctv,e⟩,⟨_,e⟩,λh1 h2 ⟨pm,ctv,e⟩ k=>⟨pm,ctv,k _ e⟩⟩
section
variable{X:Cx}{params:Arguments}{body:PySem.Expr}{scope:Scope}{pos:Pos}{c P:Addr}{q:Str}
def Iu(P:Addr)(pos:Pos)(q:Str)(params:Arguments)(body:PySem.Expr)(scope:Scope):TE:=fun σ H Q=>TabOk P pos q H/\∀(f c':Addr)(H':Hp),SameX H H'->H' f=some (cE f c' q params body scope)->H' c'=some (aO c' q)->TabOk P pos q H'->Q (.ref f) H'
theorem Iw(hcode:X.env.code=.ref c)(hglob:X.env.globals=mainGlobals)(hC:CodeHd X.base c P)(hB:BM X.mg X.base)(hq:X.env.qual++"<lambda>"=q)
  (hcl:closureFor scope X.env=pure []:=by rfl) (hdef:defaultsOf params X.env=([],[]):=by rfl):
  PE X (.Lambda params body scope pos) (Iu P pos q params body scope):=by
 intro ζ s σ H Q I h;obtain⟨tab,q1⟩:=h;have old:∀b o,X.base.get? b=some o->s.heap.get? b=some o/\H b=none:=λb o e=>I.bs b o e
 have hP0:∃ps,H P=some (.tbl ps):=by
  rcases tab with h|⟨c',h,_⟩
  ·exact⟨_,h⟩
  ·exact⟨_,h⟩
 obtain⟨ps,hP⟩:=hP0;have hPh:s.heap.get? P=some (tabObj ps):=I.hok P _ hP;have hgs:s.heap.Ns mainGlobals X.mg:=I.ok.mod.glob.keeps λb o e=>(old b o e).1
 obtain⟨bm,ob,b1,b2,b3,b4,b5,b6⟩:=hB;have hgP:mainGlobals≠P:=λz=>by
  obtain⟨o,es,ep,e,hd,_⟩:=I.ok.mod.glob;have:=(old _ _ e).2;rw[z,hP]at this;cases this
 have hbP:bm≠P:=λz=>by
  have:=(old _ _ b3).2;rw[z,hP]at this;cases this
 have hbG:bm≠mainGlobals:=λz=>by
  obtain⟨o,es,ep,e,hd,_⟩:=I.ok.mod.glob;rw[z,e]at b3;cases b3;rw[hd]at b6;cases b6
 have hBA:s.heap.BuiltinsAt X.mg P:=⟨bm,ob,b1,b2,hbG,hbP,(old _ _ b3).1,b4,b5,b6⟩;have hCs:CodeHd s.heap c P:=hC.keeps λb o e=>(old b o e).1
 refine kla_eval hdef ?_;rw[hq];rcases tab with h0|⟨c',h0,hc'⟩
 ·rw[hP]at h0
  cases h0;refine kla_makeFunction (mg:=X.mg) hcl hglob hgs hcode hCs hPh trivial rfl hgP hBA λc' ctv h' tk hx hge hlt hrec htb=>?_
  have hf:h'.objs.size≠c':=ne_of_gt hlt;have hPs:P<s.heap.objs.size:=Heap.lt_size hPh;have hPc:P≠c':=ne_of_lt (lt_of_lt_of_le hPs hge);have hle:s.heap.objs.size<=h'.objs.size:=le_trans hge (le_of_lt hlt);have hPf:P≠h'.objs.size:=ne_of_lt (lt_of_lt_of_le hPs hle);have nf:H h'.objs.size=none:=I.hok.fresh hle;have nc:H c'=none:=I.hok.fresh hge;have htb':h'.get? P=some (tabObj #[rawInt pos.line,rawInt pos.col,.ref c']):=by simpa using htb
  let H':Hp:=upd (upd (upd H P (.tbl #[rawInt pos.line,rawInt pos.col,.ref c'])) c' (aO c' q)) h'.objs.size (cE h'.objs.size c' q params body scope)
  have eP:H' P=some (.tbl #[rawInt pos.line,rawInt pos.col,.ref c']):=by show upd _ _ _ P=_;rw[B4 hPf,B4 hPc,A6]
  have ec:H' c'=some (aO c' q):=by show upd _ _ _ c'=_;rw[B4 (Ne.symm hf),A6]
  have ef:H' h'.objs.size=some (cE h'.objs.size c' q params body scope):=A6;have eo:∀b,b≠P->b≠c'->b≠h'.objs.size->H' b=H b:=λb n1 n2 n3=>by show upd _ _ _ b=_;rw[B4 n3,B4 n2,B4 n1]
  have tr:∀b u,H b=some u->b≠c'/\b≠h'.objs.size:=λb u e=>⟨E5 e nc,E5 e nf⟩
  have push:∀b o,b≠P->s.heap.get? b=some o->(h'.push (kla_obj "<lambda>" q params body scope [] ((X.mg "__name__").getD .none) c' ctv)).get? b=some o:=λb o n e=>Heap.get?_push_of_some _ (hx b o n e)
  have I2:Inv X ζ σ H' {s with heap:=h'.push (kla_obj "<lambda>" q params body scope [] ((X.mg "__name__").getD .none) c' ctv),gens:=s.gens,drawn:=s.drawn,toks:=tk}:=by
   refine I.step (ch:=[]) (λ_ z=>nomatch z) (λb o _ _ _ e n=>push b o (λz=>by rw[z,hP]at n;cases n) e) (λb o _ _ _ e n=>⟨o.slots,push b o (λz=>by rw[z,hP]at n;cases n) e⟩) (λb o _ e n=>?_) (λb o _ e=>?_)
    (λb xs e=>?_) (λb o u e=>?_) (λb qs e=>?_) (λm hm=>?_) (λb u e=>?_) I.bare
   ·have lb:=Heap.lt_size e
    rw[eo b (λz=>by rw[z,hP]at n;cases n) (ne_of_lt (lt_of_lt_of_le lb hge)) (ne_of_lt (lt_of_lt_of_le lb hle))];exact n
   ·by_cases z:b=P
    ·rw[z];exact⟨_,Heap.get?_push_of_some _ htb'⟩
    ·exact⟨o,push b o z e⟩
   ·rw[eo b (λz=>by rw[z,hP]at e;cases e) (tr b _ e).1 (tr b _ e).2];exact e
   ·rw[eo b (λz=>by rw[z,hP]at e;cases e) (tr b _ e).1 (tr b _ e).2];exact e
   ·by_cases z:b=P
    ·rw[z,hP]at e
     cases e;exact⟨#[rawInt pos.line,rawInt pos.col,.ref c'],by rw[z,eP];simp⟩
    ·exact⟨#[],by rw[eo b z (tr b _ e).1 (tr b _ e).2,e];simp⟩
   ·obtain⟨o,es,ep,ho,r⟩:=hm
    have hL:X.env.locals≠P:=λz=>by have:=I.free;rw[z,hP]at this;cases this
    exact⟨o,es,ep,push _ o hL ho,r⟩
   ·by_cases z1:b=h'.objs.size
    ·rw[z1,ef]at e
     cases e;rw[z1];exact zX (Heap.get?_push_size _ rfl)
    ·by_cases z2:b=c'
     ·rw[z2,ec]at e
      cases e;rw[z2];obtain⟨c₂,oc,vs,t,e2,hoc,hd,hv⟩:=hrec;cases e2;exact Ir ⟨_,oc,vs,t,rfl,Heap.get?_push_of_some _ hoc,hd,hv⟩
     ·by_cases z3:b=P
      ·rw[z3,eP]at e
       cases e;rw[z3];exact Heap.get?_push_of_some _ htb'
      ·rw[eo b z3 z2 z1]at e
       refine(I.hok b u e).stay (λd v hd' g=>?_) (λd g=>?_) λd xs g=>?_
       ·refine push d v (λz=>?_) g
        rcases hd' with k|k
        ·exact z3 (by rw[←k,z])
        ·rw[z,hP]at k;cases k
       ·rw[eo d (λz=>by rw[z,hP]at g;cases g) (tr d _ g).1 (tr d _ g).2];exact g
       ·rw[eo d (λz=>by rw[z,hP]at g;cases g) (tr d _ g).1 (tr d _ g).2];exact g
  exact⟨.ref h'.objs.size,H',I2,rfl,q1 _ c' H' (λb o e n=>by rw[eo b (λz=>by rw[z,hP]at e;cases e;exact n _ rfl) (tr b _ e).1 (tr b _ e).2];exact e) ef ec (.inr ⟨c',eP,ec⟩)⟩
 ·rw[hP]at h0
  cases h0;have hrec:s.heap.CodeRec (.ref c') q:=(I.hok c' _ hc').1;refine kla_makeFunctionHit (mg:=X.mg) hcl hglob hgs hcode hCs hPh ?_ (cv:=.ref c') ?_ hBA λctv h' tk hk hsz=>?_
  ·exact trivial
  ·simp[codeAmong,rawInt]
  have nf:H h'.objs.size=none:=I.hok.fresh hsz;refine⟨.ref h'.objs.size,_,I.laid (t':=tk) (λb o e=>Heap.get?_push_of_some _ (hk b o e)) hsz (zX (Heap.get?_push_size _ rfl)),rfl,q1 _ c' _ (Same.x (B2 nf _)) A6 ?_ ?_⟩
  ·rw[B4 (E5 hc' nf)];exact hc'
  ·exact TabOk.mono (.inr ⟨c',hP,hc'⟩) (B2 nf _)
end
abbrev zY(c':Addr)(q:Str)(params:Arguments)(body:PySem.Expr)(scope:Scope):FuncData:=kla_fn "<lambda>" q params body scope [] .none (.ref c') .none
theorem Ix{CX:Q1}{P:Program}{w:World}{K:Frag}{mg:Str->Option Value}{base:Heap}{k:Nat}{f c':Addr}{q:Str}{params:Arguments}{body:PySem.Expr}{scope:Scope}{N ps:List Str}{sp:Sp}
  (S:FnScope N ps scope) (len:∀vs H Q E,sp vs H Q E->vs.length=ps.length)
  (hbody:∀(A:Around)(outer:List Env)(s:Shared)(H:Hp)(vs:List V)(Q:VK)(E:XK),Room k (A.deeper (envOfC q scope s.heap.objs.size f (.ref c')))->sp vs H Q E->
   ∃t,PE (K1 CX P w K mg base N q scope f (.ref c') A outer s H E) body t/\t (start N vs) H Q):
  FnOk P w K mg base CX (k+1) f (zY c' q params body scope) ps (λvs H Q E=>H f=some (cE f c' q params body scope)/\H c'=some (aO c' q)/\sp vs H Q E):=by
 refine⟨λvs H Q E h=>len vs H Q E h.2.2,λA outer s H args us vs Q E hr e0 hb r hsp=>?_⟩;obtain⟨hf,hc,hsp⟩:=hsp;have hl:=len _ _ _ _ hsp;have lim:s.heap.NoLimit:=e0.mod.nolimit.keeps λb o e=>(e0.bs b o e).1
 have hkind:∀y∈ps.zip us,scope.names.lookup y.1=some .local∨(scope.names.lookup y.1=some .cell/\((cellsFrom (s.heap.objs.size+1) scope.names []).lookup y.1).isSome=true):=λ⟨n,v⟩ hy=>by
  rcases S.par n (of_mem_zip hy).1 with q|q
  ·exact .inl q
  ·exact .inr ⟨q,cellsFrom_some _ _ _ (.inl q)⟩
 obtain⟨pm,ctv,ho⟩:=(e0.hok f _ hf).1;have hrec:s.heap.CodeRec (.ref c') q:=(e0.hok c' _ hc).1;have hb':BindsTo s (kla_fn "<lambda>" q params body scope [] pm (.ref c') ctv) args (ps.zip us):=λM A E Q hq=>hb M A E Q hq
 refine kla_callFunE hr.depth ho rfl S.co S.gen rfl hrec (hb' _ _ _ _ ?_);refine wpAny_newFunctionEnv_cells S.kind hkind λenv he s1 x=>?_
 subst he;refine⟨lim.keeps x.toInCall.keep,kla_codeExpr ?_⟩;obtain⟨t,ht,hq⟩:=hbody A outer s H vs Q E (hr.deeper _) hsp;have I:Inv (K1 CX P w K mg base N q scope f (.ref c') A outer s H E) [] (start N vs) H s1:=tF S hr.hd e0 hl r x;refine wpAny_mono (ht [] s1 (start N vs) H _ I hq) (λu s' hs=>?_) λe s' hs=>hs
 obtain⟨v,H',J,rv,q⟩:=hs;exact⟨v,H',J.os,J.bare,J.base,J.hok,rv,q⟩
end Rg
namespace Rg
open PySem PySem.W PySem.Spec PyProof.Rows L2 PySem.NumText Builtin.Str
theorem zZ{k:Nat}(h:k<1000000):1<=(dg k).length/\(dg k).length<=6:=Y3 5 k (by simpa using h)
theorem Aa(k:Nat):dg k≠[]:=λh=>by
 have:=(Y3 k k (lt_of_lt_of_le (Nat.lt_pow_self (!3)) (Nat.pow_le_pow_right (!3) (le_succ k)))).1;rw[h]at this;cases this
theorem Iy{z:Str}{k:Nat}(h:z.cps.toList=dg k)(hk:k<1000000):PySem.intText? z=some (k:Int)/\z.length<=640:=by
 have hl:=zZ hk;have hz:z.length=(dg k).length:=by rw[A8,h]
 have:=intText_digits (x:=z) (by rw[h];exact O8 k) (by rw[h];exact Aa k) (!1);rw[h,show digitsVal (dg k)=k from KIN.val_back k]at this;exact⟨this,!1⟩
theorem Ab(x:Str)(c:Nat):Txt.contains x ⟨#[c]⟩=decide (c∈x.cps.toList):=StrLaws.found_one x c
theorem oX(x:Str)(c k:Nat):StrLaws.At x ⟨#[c]⟩ x.length k↔x.cps.toList[k]?=some c:=by
 have hl:x.length=x.cps.toList.length:=A8 x;unfold StrLaws.At;rw[StrLaws.subAt_eq];show k+1<=x.length/\((x.cps.toList.drop k).take 1==[c])=true↔_;rw[hl,beq_iff_eq];generalize x.cps.toList=l;constructor
 ·rintro ⟨h1,h2⟩
  rw[drop_eq_getElem_cons (!1)]at h2;have h2:[l[k]]=[c]:=h2;rw[getElem?_eq_getElem (!1)];rw[(List.cons.inj h2).1]
 ·intro h
  obtain⟨h1,h2⟩:=List.getElem?_eq_some_iff.mp h;refine⟨!1,?_⟩;rw[drop_eq_getElem_cons h1,h2];rfl
theorem Iz{x:Str}{c:Nat}(h:c∈x.cps.toList):∃i:Nat,Txt.find x ⟨#[c]⟩=(i:Nat)/\x.cps.toList[i]?=some c/\∀k,k<i->x.cps.toList[k]?≠some c:=by
 rcases find_whole x ⟨#[c]⟩with⟨_,h2⟩|⟨i,h1,h2,h3⟩
 ·obtain⟨i,hi,e⟩:=getElem_of_mem h
  exact absurd ((oX x c i).mpr (by rw[getElem?_eq_getElem hi,e])) (h2 i)
 ·exact⟨i,h1,(oX x c i).mp h2,λk hk e=>h3 k hk ((oX x c k).mpr e)⟩
theorem iZ(z:Str)(a b:Nat)(h:a<=b)(hb:b<=z.length):(Txt.slice z (some ((a:Nat):Int)) (some ((b:Nat):Int))).cps.toList=(z.cps.toList.drop a).take (b-a):=by
 rw[show Txt.slice z (some ((a:Nat):Int)) (some ((b:Nat):Int))=_ from StrLaws.sliceText_nat z h hb]
theorem oY(z:Str)(b:Nat)(hb:b<=z.length):(Txt.slice z none (some ((b:Nat):Int))).cps.toList=z.cps.toList.take b:=by
 rw[show Txt.slice z none (some ((b:Nat):Int))=_ from StrLaws.sliceText_to ⟨!1,by rw[←A8];omega⟩];show(z.cps.toList.drop 0).take ((b:Int)-0).toNat=_;rw[show((b:Int)-0).toNat=b by omega];rfl
theorem jA(z:Str)(a:Nat)(ha:a<=z.length):(Txt.slice z (some ((a:Nat):Int)) none).cps.toList=z.cps.toList.drop a:=by
 rw[show Txt.slice z (some ((a:Nat):Int)) none=_ from StrLaws.sliceText_from ⟨!1,by rw[←A8];omega⟩];show(z.cps.toList.drop ((a:Int)).toNat).take _=_;rw[show((a:Int)).toNat=a by omega];refine take_of_length_le ?_;rw[length_drop];omega
theorem IA(z:Str){a b:Nat}{ds:List Nat}(h:z.cps.toList=a::(ds++[b])):(Txt.slice z (some 1) (some (-1))).cps.toList=ds:=by
 have hl:z.length=ds.length+2:=by rw[A8,h,length_cons,length_append];rfl
 have e1:Txt.slice z (some 1) (some (-1))=Txt.slice z (some 1) (some (-1+(z.length:Int))):=StrLaws.sliceText_neg_hi z (some 1) (!3) (!1);rw[e1,show(-1:Int)+(z.length:Int)=((z.length-1:Nat):Int) by omega,show(some (1:Int))=some (((1:Nat)):Int)from rfl,iZ z 1 (z.length-1) (!1) (!1),h,hl];show(ds++[b]).take (ds.length+2-1-1)=ds;rw[show ds.length+2-1-1=ds.length by omega,take_left]
theorem Ac(z:Str):(Txt.slice z none (some 1)="-")↔∃cs,z.cps.toList=45::cs:=by
 have hm:("-" : Str).cps.toList=[45]:=by decide +kernel
 cases e:z.cps.toList with
 |nil=>
  have:z=sL []:=Q9 e;rw[this];constructor
  ·intro h;exact absurd h (!0)
  ·rintro ⟨cs,h⟩;cases h
 |cons c r=>
  have h1:=oY z 1 (by rw[A8,e,length_cons];omega);rw[e]at h1;have h1:(Txt.slice z none (some 1)).cps.toList=[c]:=h1;constructor
  ·intro h
   rw[h,hm]at h1;exact⟨r,by rw[←(List.cons.inj h1).1]⟩
  ·rintro ⟨cs,h⟩
   refine Q9 ?_;rw[h1,hm,(List.cons.inj h).1]
end Rg
namespace Rg
open PySem L2
theorem Ad{p:Nat->Bool}:∀{n:Nat}{ini:List Nat}{o:Nat},(List.range n).filter p=ini++[o]->p o=true/\o<n/\∀j,o<j->j<n->p j=false
 |0,ini,o,h=>by
  have:=congrArg length h;rw[length_append]at this;simp at this
 |n+1,ini,o,h=>by
  rw[range_succ,filter_append]at h;cases hp:p n with
  |true=>
   rw[List.filter_cons_of_pos hp,List.filter_nil]at h;obtain⟨_,e⟩:=List.append_inj' h rfl;have e:n=o:=by simpa using e
   subst e;exact⟨hp,lt_succ_self _,λj h1 h2=>by omega⟩
  |false=>
   rw[List.filter_cons_of_neg (by rw[hp];simp),List.filter_nil,append_nil]at h;obtain⟨h1,h2,h3⟩:=Ad h;refine⟨h1,!1,λj g1 g2=>?_⟩;rcases lt_or_ge j n with z|z
   ·exact h3 j g1 z
   ·rw[show j=n by omega];exact hp
theorem IB{p:Nat->Bool}{n:Nat}(h:(List.range n).filter p=[]):∀j,j<n->p j=false:=λj hj=>by
 cases e:p j with
 |false=>rfl
 |true=>
  have:=mem_filter.mpr ⟨mem_range.mpr hj,e⟩;rw[h]at this;cases this
theorem oZ{S:List Nat}{q:Nat->Bool}{n:Nat}(h:∀j c,j<n->S[j]?=some c->q c=false):∀x∈S.take n,q x=false:=λx hx=>by
 obtain⟨j,hj,e⟩:=getElem_of_mem hx;rw[length_take]at hj;refine h j x (!1) ?_;rw[getElem?_eq_getElem (!1),←e,List.getElem_take]
theorem IC{S:List Nat}{a o ca co:Nat}(ha:S[a]?=some ca)(hc:C2 ca=true)(h1:∀j c,j<a->S[j]?=some c->C2 c=false)(ho:S[o]?=some co)(hoo:G9 co=true)(hlt:o<a)(h2:∀j c,o<j->j<a->S[j]?=some c->G9 c=false):
  Cut S (S.take o) ((S.drop (o+1)).take (a-(o+1))) (S.drop (a+1)) co ca:=by
 have hal:a<S.length:=(List.getElem?_eq_some_iff.mp ha).1;have eo:S.drop o=co::S.drop (o+1):=by
  rw[drop_eq_getElem_cons (!1)];rw[(List.getElem?_eq_some_iff.mp ho).2]
 have ea:S.drop a=ca::S.drop (a+1):=by
  rw[drop_eq_getElem_cons hal];rw[(List.getElem?_eq_some_iff.mp ha).2]
 have em:S.drop (o+1)=(S.drop (o+1)).take (a-(o+1))++S.drop a:=by
  have:=(List.take_append_drop (a-(o+1)) (S.drop (o+1))).symm;rw[drop_drop,show o+1+(a-(o+1))=a by omega]at this;exact this
 refine⟨?_,oZ λj c hj e=>h1 j c (!1) e,λx hx=>?_,hoo,hc⟩
 ·rw[←ea,←em,←eo,List.take_append_drop]
 ·obtain⟨j,hj,e⟩:=getElem_of_mem hx
  rw[length_take,length_drop]at hj;have e2:S[o+1+j]?=some x:=by
   rw[←e,List.getElem_take,List.getElem_drop,getElem?_eq_getElem (!1)]
  exact⟨h1 _ x (!1) e2,h2 _ x (!1) (!1) e2⟩
theorem Ae:∀{ts:List Tk},(∀t∈ts,t.Ok 0)->∀c∈C4 ts,c≠35/\c≠59
 |[],_,c,h=>by cases h
 |t::ts,h,c,hc=>by
  rw[P0]at hc;rcases mem_append.mp hc with hc|hc
  ·have ht:=h t mem_cons_self
   cases t with
   |sg d=>
    rw[mem_singleton.mp hc];exact ht
   |mk k=>exact absurd ht (not_lt_zero _)
  ·exact Ae (λx hx=>h x (mem_cons_of_mem _ hx)) c hc
theorem Af{S:List Nat}(h:W8 S):∀c∈S,c≠35/\c≠59:=by
 obtain⟨p,⟨t,e,hv⟩,_⟩:=(iX S).mp h;have:=nQ (yM []) t hv;rw[←e,←nO];exact Ae this
theorem ID{S:List Nat}(h:∀c∈S,c≠35/\c≠59):cC 0 S:=⟨S.map .sg,eF S,λt ht=>by
 obtain⟨c,hc,rfl⟩:=mem_map.mp ht;exact h c hc⟩
theorem IE{S pre inr post:List Nat}{o c:Nat}(h:Cut S pre inr post o c){m:Nat}:(pre++(B8 m++post)).countP C2+1=S.countP C2:=by
 have hz:∀{l:List Nat},(∀x∈l,C2 x=false)->l.countP C2=0:=λhl=>List.countP_eq_zero.mpr λx hx=>by rw[hl x hx];simp
 have hm:(B8 m).countP C2=0:=hz λx hx=>by
  rcases mem_cons.mp hx with rfl|hx
  ·decide
  ·rcases mem_append.mp hx with hx|hx
   ·have:=aJ hx
    unfold C2;simp;omega
   ·rw[mem_singleton.mp hx];decide
 have ho:C2 o=false:=by
  have:=h.o;unfold G9 at this;unfold C2;simp at this ⊢;omega
 rw[h.e,List.countP_append,List.countP_append,List.countP_append,List.countP_cons,List.countP_append,List.countP_cons,hm,hz h.h1,hz λx hx=>(h.h2 x hx).1,h.c,ho];simp
end Rg
namespace Rg
open PySem PySem.W PySem.Spec PyProof.Rows L2
theorem IF{X:Cx}{k:Nat}(hr:Room k X.A):QOp X (compareOp .Eq) (λx y H Q=>∃l:List Dt,Q4 H (.lst l) x/\Q4 H (.lst l) y/\Dt.Fines l/\Dt.deeps l<=49/\Q (.bl true) H):=⟨by
 intro ζ s σ H x y v u Q I rx ry h;obtain⟨l,h1,h2,ok,hz,q⟩:=h;have hu:X.A.units+60<cLine:=by have z:=hr.un;omega
 obtain⟨a,xs,rfl,a2,a3⟩:=(h1:∃a xs,x=V.ref a/\H a=some (.lst xs)/\DReps H l xs);obtain⟨b,ys,rfl,b2,b3⟩:=(h2:∃a xs,y=V.ref a/\H a=some (.lst xs)/\DReps H l xs);cases rx;cases ry;obtain⟨_,its,n,rv,e1⟩:=I.hok a _ a2;obtain⟨_,jts,m,rw',e2⟩:=I.hok b _ b2;have key:=X4 I.hok (A:=X.A.in1) l a3 b3 rv rw' ok (by show X.A.units+1+Dt.deeps l<cLine;omega);have hl:its.length=jts.length:=by rw[←rv.length,←rw'.length,a3.len,b3.len]
 refine vA (items:=its.toArray) (items2:=jts.toArray) ⟨_,e1,rfl,n,rfl⟩ ⟨_,e2,rfl,m,rfl⟩ (by simpa using hl) (!1) (λj h1' h2'=>?_) ⟨.bl true,H,I,rfl,q⟩;simpa using key j (by simpa using h1') (by simpa using h2')⟩
end Rg
namespace Rg
open PySem PySem.W PySem.Spec PyProof.Rows L2
def IG(K:Frag):R2:=λx y H Q=>∃a b xs,x=.ref a/\y=.ref b/\SqL K H a xs/\H b=some (.lst [])/\Q (.bl (!xs.isEmpty)) H
theorem IH{X:Cx}(K:Frag)(hu:X.A.units+1<cLine)(hK:X.K=K:=by rfl):QOp X (compareOp .NotEq) (IG K):=⟨by
 subst hK;intro ζ s σ H x y v u Q I rx ry h;obtain⟨a,b,xs,rfl,rfl,ha,hb,q⟩:=h;cases rx;cases ry;obtain⟨its,rvs,pl,hz⟩:=I.list ha;obtain⟨its2,rvs2,pl2,hz2⟩:=I.list (SqL.of (K:=X.K) hb);cases rvs2;cases xs with
 |nil=>
  cases rvs;exact(PySem.SeqAt.RcNeAt.lists (e:=λ_=>true) pl.isList pl2.isList rfl (!1) (λj h1 _=>absurd h1 (!2))) _ _ _ _ ⟨.bl false,H,I,rfl,q⟩
 |cons x xs=>
  cases rvs with
  |cons r rs=>exact(PySem.SeqAt.RcNeAt.lists_lengths pl.isList pl2.isList (!2) (!1)) _ _ _ _ ⟨.bl true,H,I,rfl,q⟩⟩
end Rg
namespace Rg
open PySem L2
theorem II{X:Cx}:QOp X (binaryOp .Mult) uC:=⟨Eg⟩
end Rg
namespace Rg
open PySem L2
def GlbAt(K:Frag)(x:Str)(st:Stmt):Prop:=∃(f:Addr)(fd:FuncData),nsIn K mainGlobals x=some (some (.ref f))/\Fun K x x st f fd
def MthAt(K:Frag)(C:Addr)(x q:Str)(st:Stmt):Prop:=∃(f:Addr)(fd:FuncData),findIn K (.ref C) x=some (some (.ref f))/\isFn K (.ref f)=true/\Fun K x q st f fd
theorem IJ{K:Frag}{x:Str}{st:Stmt}{f:Addr}{oc:Value}{od an:Option Addr}{osl:Array (Option Value)}{kV doc pm cdv ct:Value}(a:nsIn K mainGlobals x=some (some (.ref f)))(l:K.lookup f=some ⟨oc,od,.func (fnOf x x (R5 st) (O4 st) (B6 st) .none kV doc pm an cdv ct),osl⟩)
  (c:codeIn K cdv x=true) (k:keepIn K (.ref f)=true):GlbAt K x st:=⟨_,_,a,gD l c k⟩
theorem IK{K:Frag}{C:Addr}{x q:Str}{st:Stmt}{f:Addr}{oc:Value}{od an:Option Addr}{osl:Array (Option Value)}{kV doc pm cdv ct:Value}(a:findIn K (.ref C) x=some (some (.ref f)))(i:isFn K (.ref f)=true)(l:K.lookup f=some ⟨oc,od,.func (fnOf x q (R5 st) (O4 st) (B6 st) .none kV doc pm an cdv ct),osl⟩)
  (c:codeIn K cdv q=true) (k:keepIn K (.ref f)=true):MthAt K C x q st:=⟨_,_,a,i,gD l c k⟩
structure ClsAt(K:Frag)(c:Str)(C:Addr):Prop where
 a:nsIn K mainGlobals c=some (some (.ref C))
 cl:Cls K C
 mks:makesIn K C=true
 kc:keepIn K (.ref C)=true
theorem IL{K:Frag}{c:Str}{C:Addr}(a:nsIn K mainGlobals c=some (some (.ref C)))(pg:plainGet K C Str.empty=true)(hd:hasDictIn K C=true)(po:plainOver K C=true)
  (sa:findIn K (.ref C) "__setattr__"=some (some (.builtin "object.__setattr__"))) (mk:makesIn K C=true) (kc:keepIn K (.ref C)=true):ClsAt K c C:=⟨a,⟨pg,hd,po,sa⟩,mk,kc⟩
def NoF(K:Frag)(C:Addr):List Str->Prop
 |[]=>True
 |f::l=>findIn K (.ref C) f=some none/\NoF K C l
theorem NoF.all{K:Frag}{C:Addr}:∀{l:List Str},NoF K C l->∀f∈l,findIn K (.ref C) f=some none
 |[],_,f,hf=>absurd hf (not_mem_nil)
 |a::l,h,f,hf=>by
  rcases mem_cons.mp hf with rfl|hf
  ·exact h.1
  ·exact NoF.all h.2 f hf
def Ag(K:Frag):List Str->Prop
 |[]=>True
 |f::l=>nsIn K mainGlobals f=some none/\Ag K l
end Rg
namespace Rg
open PySem L2
structure Tg(P:Program)(w:World)(K:Frag)(mg:Str->Option Value)(base:Heap):Prop where
 m:∀{x:Str}{v:Value},nsIn K mainGlobals x=some (some v)->mg x=some v
section
variable{P:Program}{w:World}{K:Frag}{mg:Str->Option Value}{base:Heap}{x q:Str}{st:Stmt}{k:Nat}{ps:List Str}{sp:Sp}{C:Addr}
theorem GlbAt.has(p:GlbAt K x st)(Z:Tg P w K mg base)(o:∀{f fd},Fun K x x st f fd->FnOk P w K mg base C6 k f fd ps sp)(b:∀{f fd},Fun K x x st f fd->Binds K fd ps []):D8 P w K mg base x k ps sp:=by
 obtain⟨f,fd,a,F⟩:=p;exact⟨f,fd,o F,b F,F.kp,Z.m a⟩
theorem MthAt.has(p:MthAt K C x q st)(Z:Tg P w K mg base)(c:Cls K C)(o:∀{f fd},Fun K x q st f fd->FnOk P w K mg base C6 k f fd ps sp)(b:∀{f fd},Fun K x q st f fd->Binds K fd ps []):Q5 P w K mg base C x k ps sp:=by
 obtain⟨f,fd,a,i,F⟩:=p;exact⟨f,fd,o F,b F,⟨a,i,F.kp⟩,c⟩
theorem MthAt.hasC{cn:Str}(p:MthAt K C "__init__" q st)(Z:Tg P w K mg base)(c:ClsAt K cn C)(o:∀{f fd},Fun K "__init__" q st f fd->FnOk P w K mg base C6 k f fd ps sp)(b:∀{f fd},Fun K "__init__" q st f fd->Binds K fd ps []):mL P w K mg base cn C k ps sp:=by
 obtain⟨f,fd,a,i,F⟩:=p;exact⟨f,fd,o F,b F,⟨c.mks,a,i,c.kc⟩,Z.m c.a⟩
end
end Rg
namespace Rg
open PySem L2
section
variable{P:Program}{w:World}{K:Frag}{mg:Str->Option Value}{base:Heap}{x q:Str}{st:Stmt}{k n:Nat}{ps:List Str}{sp:Sp}{C G:Addr}{fF:List V->List (Str×V)}
theorem GlbAt.hasX(p:GlbAt K x st)(Z:Tg P w K mg base)(o:∀{f fd},Fun K x x st f fd->FnOk P w K mg base (G8 P w) k f fd ps sp)(b:∀{f fd},Fun K x x st f fd->Binds K fd ps []):M6 P w K mg base x k ps sp:=by
 obtain⟨f,fd,a,F⟩:=p;exact⟨f,fd,o F,b F,F.kp,Z.m a⟩
end
end Rg
namespace Rg
open PySem PySem.W PySem.Spec PyProof.Rows L2
def pA(P:Addr)(H:Hp):Prop:=H P=some (.tbl #[])/\∀b,b≠P->H b=none∨∃o xs,H b=some (.frz o (.lst xs))
theorem IM{P:Program}{w:World}{K:Frag}{mg mb:Str->Option Value}{CX:Q1}{k:Nat}{fa a c Pt:Addr}{fd:FuncData}{x:Str}{sp:Sp}{s₁:Shared}{vs:List Value}{ns:List Int}
  (KX:K.In s₁.heap) (hns:s₁.heap.Ns mainGlobals mg) (hb:s₁.heap.Ns builtinsNs mb) (hbb:∀x:Str,x≠"__name__"->mb x=bootBuiltins x) (hlim:s₁.heap.NoLimit) (hg:s₁.gens=#[])
  (hbm:BM mg s₁.heap) (hPk:K.lookup Pt=none) (hPt:s₁.heap.TableAt c Pt #[])
  (ha:s₁.heap.get? a=some {cls:=.type "list",data:=.seq vs.toArray}) (hi:IntsAre vs ns) (hl:ns.length<=sizeLine) (hr:Room k callerA)
  (F:∀base:Heap,K.In base->base.Ns mainGlobals mg->BM mg base->FnOk P w K mg base CX k fa fd [x] sp) (hbind:∀(s:Shared)(u:Value),BindsTo s fd ⟨[u],[]⟩ [(x,u)])
  (hsp:∀H:Hp,pA Pt H->SqL K H a (ns.map V.int)->sp [.ref a] H (λv _=>v=.bl true) λ_ _ _=>False)
  (hCX:∀H e s',CX [] H s₁ (λ_ _ _=>False) e s'->False):
  codeAny (model P w) callerA (.call (.ref fa) ⟨[.ref a],[]⟩) (λr s'=>r=.ok (.ret (.bool true))/\OldK s₁.heap s'.heap/\s'.os=s₁.os/\AllBare s'.gens) s₁:=by
 have rv:=uD hi;have lenV:=hi.length;have hPg:s₁.heap.get? Pt=some {cls:=.none,data:=.fields #[]}:=hPt.2;have hPa:Pt≠a:=λz=>by
  rw[z,ha]at hPg;cases hPg
 have core:∀H:Hp,pA Pt H->SqL K H a (ns.map V.int)->HOk P w H s₁.heap->(∀b,H b≠none->b=a∨b=Pt)->(H a≠none->K.lookup a=none)->
   codeAny (model P w) callerA (.call (.ref fa) ⟨[.ref a],[]⟩) (λr s'=>r=.ok (.ret (.bool true))/\OldK s₁.heap s'.heap/\s'.os=s₁.os/\AllBare s'.gens) s₁:=by
  intro H hO hS hok hA hK;have base_of:∀{b:Addr}{o:Obj},s₁.heap.get? b=some o->H b=none->(T7 s₁.heap H).get? b=some o:=λe n=>BV e n
  have noA:∀{b:Addr}{o:Obj},s₁.heap.get? b=some o->(∀xs n,o.data≠.seq xs n)->(∀xs,o.data≠.fields xs)->H b=none:=λ{b o} e d1 d2=>by
   cases q:H b with
   |none=>rfl
   |some u=>
    rcases hA b (by rw[q];simp)with e'|e'
    ·subst e'
     rw[ha]at e;cases e;exact absurd rfl (d1 _ _)
    ·subst e'
     rw[hPg]at e;cases e;exact absurd rfl (d2 _)
  have nsK:∀{b:Addr}{m:Str->Option Value},s₁.heap.Ns b m->(T7 s₁.heap H).Ns b m:=λ{b m} ⟨o,es,ep,e,d,r⟩=>⟨o,es,ep,base_of e (noA e (λxs n z=>by rw[d]at z;cases z) λxs z=>by rw[d]at z;cases z),d,r⟩
  have hKb:K.In (T7 s₁.heap H):=λb o e=>base_of (KX b o e) (by
   cases q:H b with
   |none=>rfl
   |some u=>
    rcases hA b (by rw[q];simp)with e'|e'
    ·subst e'
     rw[hK (by rw[q];simp)]at e;cases e
    ·subst e'
     rw[hPk]at e;cases e)
  have hBb:BM mg (T7 s₁.heap H):=by
   obtain⟨bm,ob,b1,b2,b3,b4,b5,b6⟩:=hbm;exact⟨bm,ob,b1,b2,base_of b3 (noA b3 (λxs n z=>by rw[b6]at z;cases z) λxs z=>by rw[b6]at z;cases z),b4,b5,b6⟩
  have hM:Mod K mg (T7 s₁.heap H):=⟨hKb,nsK hns,⟨mb,nsK hb,hbb⟩,let⟨mc,h1,h2⟩:=hlim;⟨mc,nsK h1,h2⟩⟩;have e0:Env0 P w K mg (T7 s₁.heap H) callerA [] s₁ H:=⟨rfl,hM,λb o e=>BW e,le_of_eq (BU _ _),trivial,λb hb=>absurd (show b∈([]:List Addr)from hb) (!2),hok,.of_eq hg⟩;refine codeAny_mono ((F _ hKb (nsK hns) hBb).run callerA [] s₁ H ⟨[.ref a],[]⟩ [.ref a] [.ref a] _ _ hr e0 (hbind s₁ (.ref a)) (.cons rfl .nil) (hsp H hO hS)) λr s' h=>?_
  cases r with
  |error e=>exact(hCX H e s' h).elim
  |ok fl=>
   cases fl with
   |next=>exact False.elim h
   |brk=>exact False.elim h
   |cont=>exact False.elim h
   |ret u=>
    obtain⟨v,H',os,bare,un,hok',r',q⟩:=h;have q':v=.bl true:=q;subst q';obtain rfl:u=Value.bool true:=r';refine⟨rfl,⟨λb o e=>?_,λb o e=>un.there b o e (!2)⟩,os,bare⟩;cases q:H b with
    |none=>exact .inl (un.keep b o e q (by intro z;exact absurd (show b∈([]:List Addr)from z) (!2)) (!2))
    |some u=>
     by_cases hbP:b=Pt
     ·subst hbP
      obtain⟨more,e2⟩:=un.tbls b _ hO.1;have e3:s'.heap.get? b=some {cls:=.none,data:=.fields (#[]++more)}:=hok' b _ e2;rw[hPg]at e;cases e;exact .inr (.inl ⟨hPt.isCodeTable,rfl,#[],more,rfl,e3⟩)
     ·rcases hO.2 b hbP with z|⟨ob,xs,z⟩
      ·rw[q]at z;cases z
      ·have z2:=un.frzs b ob _ z
       obtain⟨e1,_⟩:=hok b _ z;obtain⟨e2,_⟩:=hok' b _ z2;rw[e]at e1;cases e1;exact .inl e2
 have okP:∀H:Hp,ObjOk P w H s₁.heap Pt (.tbl #[]):=λH=>hPg
 cases hk:K.lookup a with
 |some o=>
  have e:=KX a o hk;rw[ha]at e;cases e;refine core (λb=>if b=Pt then some (.tbl #[])else none) ⟨if_pos rfl,λb hb=>.inl (if_neg hb)⟩ (.inr ⟨_,vs.toArray,_,hk,rfl,rfl,rfl,by rw[size_toArray,lenV];exact hl,by simpa using rv⟩) (λb u z=>?_) (λb z=>?_) λz=>absurd (if_neg (Ne.symm hPa)) z
  ·by_cases hb:b=Pt
   ·have z':=(if_pos hb).symm.trans z
    cases z';subst hb;exact okP _
   ·have z':=(if_neg hb).symm.trans z
    cases z'
  ·by_cases hb:b=Pt
   ·exact .inr hb
   ·exact absurd (if_neg hb) z
 |none=>
  refine core (λb=>if b=Pt then some (.tbl #[])else if b=a then some (.frz {cls:=.type "list",data:=.seq vs.toArray} (.lst (ns.map V.int)))else none) ⟨if_pos rfl,λb hb=>?_⟩ (.inl (.inr ⟨{cls:=.type "list",data:=.seq vs.toArray},?_⟩)) (λb u z=>?_) (λb z=>?_) λ_=>hk
  ·by_cases hb2:b=a
   ·exact .inr ⟨_,_,(if_neg hb).trans (if_pos hb2)⟩
   ·exact .inl ((if_neg hb).trans (if_neg hb2))
  ·exact(if_neg (Ne.symm hPa)).trans (if_pos rfl)
  ·by_cases hb:b=Pt
   ·have z':=(if_pos hb).symm.trans z
    cases z';subst hb;exact okP _
   ·have z':=(if_neg hb).symm.trans z
    by_cases hb2:b=a
    ·have z2:=(if_pos hb2).symm.trans z'
     cases z2;subst hb2;exact⟨ha,by rw[length_map];exact hl,vs,_,rv,ha⟩
    ·have z2:=(if_neg hb2).symm.trans z'
     cases z2
  ·by_cases hb:b=Pt
   ·exact .inr hb
   ·by_cases hb2:b=a
    ·exact .inl hb2
    ·exact absurd ((if_neg hb).trans (if_neg hb2)) z
theorem IN{l:PySem.W.OpenLaw}{n k:Nat}{q:Program}{loose:List Str}{XP:(Str->Option Value)->Heap->Prop}{YP:World->Heap->Prop}{d:DefRec}{K:Params->Frag}{CX:World->Q1}{sp:World->Sp}{x:Str}{c Pt:Addr}
  (hn:l.most=some n) (hn2:n<=sizeLine) (hdf:d.params.defaults=[]) (hr:Room k callerA)
  (hY:∀(w:World)(h:Heap),YP w h->(K w.params).In h/\h.get? Pt=some (tabObj #[])) (hPk:∀w:World,(K w.params).lookup Pt=none) (hC:∀w:World,codeHdIn (K w.params) c Pt=true)
  (F:∀(w:World)(mg:Str->Option Value)(fa:Addr)(h:Heap),(K w.params).In h->h.Ns mainGlobals mg->mg d.name=some (.ref fa)->
   ∃fd:FuncData,(∀(s:Shared)(u:Value),BindsTo s fd ⟨[u],[]⟩ [(x,u)])/\
    ∀base:Heap,(K w.params).In base->base.Ns mainGlobals mg->BM mg base->FnOk l.prog w (K w.params) mg base (CX w) k fa fd [x] (sp w))
  (hsp:∀(w:World)(H:Hp)(a:Addr)(ns:List Int),ns.length<=n->pA Pt H->SqL (K w.params) H a (ns.map V.int)->sp w [.ref a] H (λv _=>v=.bl true) λ_ _ _=>False)
  (hCX:∀(w:World)(H:Hp)(s:Shared)(e:Value)(s':Shared),CX w [] H s (λ_ _ _=>False) e s'->False):
  PySem.W.WalkO q loose XP YP l.row.toRowW d [] (λf vs=>PySem.call f vs):=by
 refine Att.Ek hn hdf λw s₀ s₁ mg mb fa o pm cd doc a vs ns G Y ho hd hcd hmg hobj hints hlen hg=>?_
 obtain⟨KX,hT⟩:=hY w _ Y;obtain⟨fd,hb,hF⟩:=F w mg fa _ KX G.T.g hmg;exact IM KX G.T.g G.T.b G.T.builtins G.T.nolimit hg G.T.bmain (hPk w) ((codeHd_of_K KX (hC w)).tab hT) hobj hints (le_trans hlen hn2) hr hF hb (λH hO hS=>hsp w H a ns hlen hO hS) λH e s'=>hCX w H s₁ e s'
end Rg
namespace Rg
open PySem L2
def Ah(K:Frag)(x:Str)(st:Stmt)(c:Addr):Prop:=∃(f:Addr)(oc kV doc pm ct:Value)(od an:Option Addr)(osl:Array (Option Value)),nsIn K mainGlobals x=some (some (.ref f))/\K.lookup f=some ⟨oc,od,.func (fnOf x x (R5 st) (O4 st) (B6 st) .none kV doc pm an (.ref c) ct),osl⟩/\codeIn K (.ref c) x=true/\keepIn K (.ref f)=true
theorem IO{K:Frag}{x:Str}{st:Stmt}{c f:Addr}{oc kV doc pm ct:Value}{od an:Option Addr}{osl:Array (Option Value)}(a:nsIn K mainGlobals x=some (some (.ref f)))(l:K.lookup f=some ⟨oc,od,.func (fnOf x x (R5 st) (O4 st) (B6 st) .none kV doc pm an (.ref c) ct),osl⟩)(cd:codeIn K (.ref c) x=true)(k:keepIn K (.ref f)=true):Ah K x st c:=
 ⟨f,oc,kV,doc,pm,ct,od,an,osl,a,l,cd,k⟩
theorem IQ{P:Program}{w:World}{K:Frag}{mg:Str->Option Value}{base:Heap}{x:Str}{C G:Addr}(Z:Tg P w K mg base)(a:nsIn K mainGlobals x=some (some (.ref C)))(k:keepIn K (.ref C)=true)(c:XCn K C G):HasN P w K mg base x C G:=⟨Z.m a,k,c⟩
end Rg
open PySem L2 Rg
local macro_rules|`(tactic| walk_at"ln")=>`(tactic| (intro vs H Q E h;first|(obtain⟨_,e,_⟩:=h;subst e;rfl)|(obtain⟨_,_,e,_⟩:=h;subst e;rfl)|(obtain⟨_,_,_,e,_⟩:=h;subst e;rfl)|(obtain⟨_,_,_,_,e,_⟩:=h;subst e;rfl)|(obtain⟨_,_,_,_,_,e,_⟩:=h;subst e;rfl)|(obtain⟨_,_,_,_,_,_,e,_⟩:=h;subst e;rfl)|(obtain⟨_,_,_,_,_,_,_,e,_⟩:=h;subst e;rfl)|(obtain⟨_,_,_,_,_,_,_,_,e,_⟩:=h;subst e;rfl)|(obtain⟨_,_,_,_,_,_,_,_,_,e,_⟩:=h;subst e;rfl)|(obtain⟨_,_,_,_,_,_,_,_,_,_,e,_⟩:=h;subst e;rfl)|(obtain⟨_,_,_,_,_,_,_,_,_,_,_,e,_⟩:=h;subst e;rfl)|(obtain⟨_,_,_,_,_,_,_,_,_,_,_,_,e,_⟩:=h;subst e;rfl)|(obtain⟨_,_,_,_,_,_,_,_,_,_,_,_,_,e,_⟩:=h;subst e;rfl)))
local macro_rules|`(tactic| walk_at"none")=>`(tactic| first|assumption|exact nn (by first|assumption|exact nn (by first|assumption|exact nn (by first|assumption|exact nn (by first|assumption|exact nn (by first|assumption|exact nn (by assumption)))))))
local macro_rules|`(tactic| walk_at"ne1")=>`(tactic| first
 |assumption
 |exact nx (by walk_at"none")
 |exact E5 (by assumption) (by walk_at"none"))
local macro_rules|`(tactic| walk_at"ne")=>`(tactic| first
 |walk_at"ne1"
 |(refine Ne.symm ?_;walk_at"ne1"))
local macro_rules|`(tactic| walk_at"hp")=>`(tactic| first
 |assumption
 |exact A6
 |(refine J9 (by walk_at"ne") ?_;walk_at"hp"))
local macro_rules|`(tactic| walk_at"fr")=>`(tactic| first
 |assumption
 |exact Fr.refl _ _
 |exact Same.fr (by assumption)
 |(refine Fr.new ?_ (by walk_at"none");walk_at"fr")
 |(refine Fr.set ?_ (by assumption) (by simp) rfl;walk_at"fr"))
local macro_rules|`(tactic| walk_at"sm")=>`(tactic| first
 |assumption
 |exact Same.refl _
 |(refine Same.put ?_ (by walk_at"none");walk_at"sm"))
local macro_rules|`(tactic| walk_at"few1")=>`(tactic| first
 |decide
 |(refine wU ?_;walk_at"few1")
 |exact(by decide:7<1000)
 |exact(by decide:12<1000))
local macro_rules|`(tactic| walk_at"few")=>`(tactic| first
 |decide
 |(refine GM ?_;walk_at"few1")
 |exact(by decide:6<1000)
 |exact(by decide:3<1000)
 |exact(by decide:4<1000)
 |exact(by decide:10<1000)
 |simp)
local macro_rules|`(tactic| walk_at"sc")=>`(tactic| exact⟨rfl,rfl,rfl,by decide +kernel,rfl,by decide +kernel,by decide +kernel⟩)
local macro_rules|`(tactic| walk_at"s7")=>`(tactic| exact⟨by decide +kernel,rfl,by decide +kernel,by decide +kernel,by decide +kernel,by decide +kernel,by decide +kernel⟩)
local macro_rules|`(tactic| walk_at"fs")=>`(tactic| (dsimp only[Fm.sort];decide +kernel))
namespace K04
open PySem L2 Rg
def F0(i:Nat):Stmt:=PySem.Challenge.pw_recordgate_k04_thing_texts_refused.main.body.getD i (.Pass ⟨0,0,0,0⟩)
abbrev jB:Stmt:=F0 9
abbrev pB:Stmt:=F0 10
abbrev pC:Stmt:=F0 11
abbrev eO:Stmt:=F0 12
abbrev pD:Stmt:=F0 13
abbrev pE:Stmt:=F0 14
abbrev pF:Stmt:=F0 20
abbrev pG:Stmt:=F0 21
abbrev jC:Stmt:=F0 22
abbrev pH:Stmt:=gC (F0 23) 0
abbrev pI:Stmt:=gC (F0 23) 1
abbrev pJ:Stmt:=gC (F0 23) 2
abbrev pK:Stmt:=gC (F0 23) 3
abbrev pM:Stmt:=F0 24
abbrev eQ:Stmt:=F0 25
abbrev pN:Stmt:=F0 26
abbrev jD:Stmt:=F0 27
abbrev jE:Stmt:=F0 28
abbrev pO:Stmt:=F0 29
abbrev pP:Stmt:=F0 30
abbrev pQ:Stmt:=F0 33
abbrev pR:Stmt:=F0 34
abbrev pS:Stmt:=F0 35
abbrev eR:Stmt:=F0 36
abbrev T4:Stmt:=F0 37
abbrev cF:Stmt:=F0 38
abbrev jF:Stmt:=F0 39
abbrev jG:Stmt:=F0 40
abbrev jH:Stmt:=F0 41
abbrev pT:Stmt:=F0 42
abbrev eU:Stmt:=F0 43
abbrev jI:Stmt:=F0 44
abbrev pU:Stmt:=F0 45
abbrev pV:Stmt:=F0 46
abbrev pW:Stmt:=F0 47
abbrev X0:Stmt:=F0 48
structure Glo(mg:Str->Option Value):Prop where
 LETTERS:∃t,mg "LETTERS"=some (.str "abcdefghijklmnopqrstuvwxyz" t)
 LONGEST_NAME:∃t,mg "LONGEST_NAME"=some (.int 8 t)
 FIGURES:∃t,mg "FIGURES"=some (.str "0123456789" t)
 MOST_FIGURES:∃t,mg "MOST_FIGURES"=some (.int 60 t)
 LARGEST:∃t,mg "LARGEST"=some (.int 100 t)
 DEEPEST:∃t,mg "DEEPEST"=some (.int 20 t)
section
variable{P:Program}{w:World}{K:Frag}{mg:Str->Option Value}{base:Heap}{f:Addr}{fd:FuncData}
def K5(z:Str):Bool:=decide (1<=z.length)&&decide (z.length<=8)&&z.cps.toList.all Y2
def cH:Sp:=λvs H Q _=>∃z:Str,vs=[.str z]/\Asc z/\z.length<=100000/\∀H',Same H H'->Q (.bl (K5 z)) H'
theorem IR:FnScope ["text"] ["text"] (B6 jB):=by walk_at"sc"
theorem IS(F:Fun K "is_name" "is_name" jB f fd)(B:Blt mg)(G:Glo mg):FnOk P w K mg base C6 1 f fd ["text"] cH:=by
 refine F.ok IR (by walk_at"ln") (λcdv A outer s H vs Q E hr h=>?_);obtain⟨z,rfl,hz,hl,q⟩:=h;have hu:=F1 hr;refine F4 (A4 (B9 (P3 (gZ U6 U6 A2 (E7 (L8 K) rfl B.len boot_len (A0 (qv 0) A1)) (dW rfl G.LONGEST_NAME) rfl)) (A7 (B3 N3)) C1)
  (A7 (B3 (E7 (dP rfl) rfl B.all PyProof.Rows.boot_all (A0 (W3 rfl (.inl rfl) (bU K (qv 0)) (LcStG.ok (sc:=B6 jB) (N:=["text"]) (fr:=[]) (by walk_at"s7") rfl rfl) (λ_ _ _ _=>Y0) (λ_ _ _ _=>(R7 Q6 (qv 0) (dU rfl G.LETTERS) rfl))) A1))))) ?_
 refine⟨_,rfl,N9 (le_of_lt (E8 _ hl)) ⟨_,_,rfl,rfl,_,rfl,?_⟩⟩;have hlen:z.cps.size=z.length:=rfl;by_cases h1:(1:Int)<=(z.length:Nat)
 ·refine F2 (decide_eq_true h1) ⟨_,_,rfl,rfl,_,rfl,?_⟩
  by_cases h2:((z.length:Nat):Int)<=8
  ·rw[decide_eq_true h2]
   refine C0 ⟨_,rfl,z,rfl,hz,X6 bV (λi ys H'=>H=H'/\ys=((z.cps.toList.take i).map Y2).map V.bl) (G7 (!1)) ⟨rfl,rfl⟩ (λi ys H' hi y=>?_) (λi x ys H2 H3 hi y w'=>?_) (λys H2 y r hr'=>?_)⟩
   ·obtain⟨rfl,rfl⟩:=y
    exact⟨trivial,by rw[length_map,length_map,length_take];omega⟩
   ·obtain⟨rfl,rfl⟩:=y
    obtain⟨rfl,c,hc,rfl⟩:=w';refine⟨_,rfl,rfl,⟨_,rfl,_,_,rfl,rfl,rfl,?_⟩⟩;rw[wY (hz.at hc),take_succ,show z.cps.toList[i]?=some c from by rw[←hc];simp,map_append,map_append];rfl
   ·obtain⟨rfl,rfl⟩:=y
    refine⟨r,_,rfl,A6,?_⟩;have e:K5 z=((z.cps.toList.take z.cps.size).map Y2).all id:=by
     unfold K5;rw[decide_eq_true (show 1<=z.length by omega),decide_eq_true (show z.length<=8 by omega),take_of_length_le (!2),all_map];rfl
    rw[←e];exact q _ (B2 hr' _)
  ·rw[decide_eq_false h2]
   have e:K5 z=false:=by
    unfold K5;rw[decide_eq_false (show ¬z.length<=8 by omega)];simp
   refine C8 ?_;rw[←e];exact q _ (Same.refl _)
 ·have e:K5 z=false:=by
   unfold K5;rw[decide_eq_false (show ¬1<=z.length by omega)];rfl
  refine G3 (decide_eq_false h1) ⟨_,rfl,C8 ?_⟩;rw[←e];exact q _ (Same.refl _)
theorem N5{z:Str}:Asc z↔∀c∈z.cps.toList,c<128:=by
 unfold Asc;rw[←Array.all_toList,all_eq_true];exact⟨λh c hc=>of_decide_eq_true (h c hc),λh c hc=>decide_eq_true (h c hc)⟩
theorem Ai{z:Str}(h:Asc z):Asc (E2 z)/\(E2 z).length<=z.length:=by
 unfold E2;by_cases hs:Txt.startswith z "-"=true
 ·rw[if_pos hs]
  obtain⟨cs,e⟩:=(U7 z).mp hs;have h':=N5.mp h;rw[e]at h';exact⟨N5.mpr (by rw[bX e];exact λc hc=>h' c (mem_cons_of_mem _ hc)),Txt.slice_le _ _ _⟩
 ·rw[if_neg hs];exact⟨h,le_refl _⟩
def jJ:Sp:=λvs H Q _=>∃z:Str,vs=[.str z]/\Asc z/\z.length<=100000/\∀H',Same H H'->Q (.bl (J2 z)) H'
theorem Aj:FnScope ["text","figures"] ["text"] (B6 jC):=by walk_at"sc"
theorem IT(F:Fun K "is_number" "is_number" jC f fd)(B:Blt mg)(G:Glo mg):FnOk P w K mg base C6 1 f fd ["text"] jJ:=by
 refine F.ok Aj (by walk_at"ln") (λcdv A outer s H vs Q E hr h=>?_);obtain⟨z,rfl,hz,hl,q⟩:=h;have hu:=F1 hr;have nd:=Aj.nd;refine F4 (X9 (B0 (i:=1) nd rfl (Or.inl rfl) (Gr (F8 K (K4 K PySem.F.plainAttrs_str PySem.F.slot_str_startswith PySem.F.type_str_startswith Hg (qv 0) (A0 A5 A1)) (λ_=>rfl)) (O7 (qv 0) (L7 A2) R8) (qv 0)))
  (A4 (B9 (P3 (gZ U6 U6 A2 (E7 (L8 K) rfl B.len boot_len (A0 (qv 1) A1)) (dW rfl G.MOST_FIGURES) rfl)) (A7 (B3 N3)) C1)
  (A4 (B9 (P3 (F8 K (E7 (dP rfl) rfl B.all PyProof.Rows.boot_all (A0 (W3 rfl (.inl rfl) (bU K (qv 1)) (LcStG.ok (sc:=B6 jC) (N:=["text","figures"]) (fr:=[]) (by walk_at"s7") rfl rfl) (λ_ _ _ _=>Y0) (λ_ _ _ _=>(R7 Q6 (qv 0) (dU rfl G.FIGURES) rfl))) A1)) (λ_=>rfl))) (A7 (B3 N3)) C1)
  (A7 (B3 (R7 J0 (U4 mV rfl B.str boot_str (A0 (U4 iD rfl B.int boot_int (A0 (qv 0) A1)) A1)) (qv 0) rfl)))))) ?_
 refine⟨fun σ' H'=>H=H'/\σ'=[some (.str z),some (.str (E2 z))],?_,?_⟩
 ·refine⟨_,rfl,rfl,z,"-",rfl,rfl,⟨_,rfl,?_⟩⟩
  by_cases hs:Txt.startswith z "-"=true
  ·refine F2 hs ⟨_,rfl,_,rfl,z,rfl,le_of_lt (E8 _ hl),rfl,?_⟩
   unfold E2;rw[if_pos hs];rfl
  ·refine G3 (Bool.eq_false_iff.mpr hs) ⟨_,rfl,rfl,?_⟩
   unfold E2;rw[if_neg hs];rfl
 ·rintro σ' H' ⟨rfl,rfl⟩
  obtain⟨ha,hfl⟩:=Ai hz;generalize hg:E2 z=g at ha hfl ⊢;have no:J2 z=false->∀H',Same H H'->Q (.bl false) H':=λe H' sm=>by
   have:=q H' sm
   rwa [e]at this
  refine⟨_,rfl,N9 (le_of_lt (E8 _ (!1))) ⟨_,_,rfl,rfl,_,rfl,?_⟩⟩;by_cases h1:(1:Int)<=(g.length:Nat)
  ·refine F2 (decide_eq_true h1) ⟨_,_,rfl,rfl,_,rfl,?_⟩
   by_cases h2:((g.length:Nat):Int)<=60
   ·rw[decide_eq_true h2]
    refine C0 ⟨_,rfl,g,rfl,ha,X6 bV (λi ys H'=>H=H'/\ys=((g.cps.toList.take i).map E1).map V.bl) (G7 (by have:g.cps.size=g.length:=rfl;omega)) ⟨rfl,rfl⟩ (λi ys H' hi y=>?_) (λi x ys H2 H3 hi y w'=>?_) (λys H2 y r hr'=>?_)⟩
    ·obtain⟨rfl,rfl⟩:=y
     exact⟨trivial,by rw[length_map,length_map,length_take];omega⟩
    ·obtain⟨rfl,rfl⟩:=y
     obtain⟨rfl,c,hc,rfl⟩:=w';refine⟨_,rfl,rfl,⟨_,rfl,_,_,rfl,rfl,rfl,?_⟩⟩;rw[mX (ha.at hc),take_succ,show g.cps.toList[i]?=some c from by rw[←hc];simp,map_append,map_append];rfl
    ·obtain⟨rfl,rfl⟩:=y
     have eall:((g.cps.toList.take g.cps.size).map E1).all id=g.cps.toList.all E1:=by rw[take_of_length_le (!2),all_map];rfl
     refine⟨r,_,rfl,A6,_,rfl,?_⟩;rw[eall];have sm:=B2 hr' (.lst (((g.cps.toList.take g.cps.size).map E1).map V.bl));cases h3:g.cps.toList.all E1 with
     |false=>
      refine C8 (no ?_ _ sm);unfold J2;rw[hg,h3];simp
     |true=>
      obtain⟨n,en,hn,hz'⟩:=mY (z:=z) (by rw[hg];omega) (by rw[hg];omega) (by rw[hg];exact h3);refine C0 ⟨_,rfl,.inr ⟨z,n,rfl,en,!1,n,rfl,iF hn,_,rfl,rfl,?_⟩⟩;have e:J2 z=decide (nT n=z):=by
       unfold J2;rw[hg,h3,en,decide_eq_true (show 1<=g.length by omega),decide_eq_true (show g.length<=60 by omega)];rfl
      have:=q _ sm;rw[e]at this;have e2:decide (V.str (nT n)=V.str z)=decide (nT n=z):=by
       rw[Bool.eq_iff_iff,decide_eq_true_iff,decide_eq_true_iff];exact⟨λh=>V.str.inj h,λh=>by rw[h]⟩
      rw[←e2]at this;exact this
   ·rw[decide_eq_false h2]
    refine C8 (no ?_ _ (Same.refl _));unfold J2;rw[hg,decide_eq_false (show ¬g.length<=60 by omega)];simp
  ·refine G3 (decide_eq_false h1) ⟨_,rfl,C8 (no ?_ _ (Same.refl _))⟩
   unfold J2;rw[hg,decide_eq_false (show ¬1<=g.length by omega)];rfl
end
end K04
namespace K04
open PySem L2 Rg
section
variable{P:Program}{w:World}{K:Frag}{mg:Str->Option Value}{base:Heap}{f:Addr}{fd:FuncData}
abbrev M4(z:Str)(p:Nat):List (Str×V):=[("text",.str z),("place",.int (p:Nat))]
abbrev jK:List Str:=["text","place"]
def But(x:Addr)(H H':Hp):Prop:=∀b,b≠x->H' b=H b
theorem But.refl(x:Addr)(H:Hp):But x H H:=λ_ _=>rfl
theorem But.upd{x:Addr}{H H':Hp}{o:HO}(h:But x H H'):But x H (upd H' x o):=λb hb=>by rw[B4 hb];exact h b hb
def Ak(C:Addr):Sp:=λvs H Q _=>∃(x dx:Addr)(z:Str),vs=[.ref x,.str z]/\H x=some (.ins C dx [])/\∀H',But x H H'->H' x=some (.ins C dx (M4 z 0))->Q .non H'
theorem Al:FnScope ["self","text"] ["self","text"] (B6 pH):=by walk_at"sc"
theorem IU{C:Addr}(F:Fun K "__init__" "Reader.__init__" pH f fd)(c:ClsF K C jK):FnOk P w K mg base C6 1 f fd ["self","text"] (Ak C):=by
 refine F.ok Al (by walk_at"ln") (λcdv A outer s H vs Q E hr h=>?_);obtain⟨x,dx,z,rfl,hx,q⟩:=h;have hu:=F1 hr;have nd:=Al.nd;refine F4 (A4 (wH K (qv 0) (qv 1) rfl)
  (A7 (wH K (qv 0) A2 rfl))) ?_
 refine⟨_,rfl,_,rfl,x,C,dx,[],rfl,hx,c.cls,c.no _ (!2),by walk_at"few",?_⟩;refine⟨_,rfl,x,C,dx,_,rfl,A6,c.cls,c.no _ (!2),by walk_at"few",?_⟩;exact q _ (But.refl _ _).upd.upd A6
def cI(C:Addr):Sp:=λvs H Q _=>∃(x dx:Addr)(z y:Str)(p:Nat),vs=[.ref x,.str y]/\H x=some (.ins C dx (M4 z p))/\p<=z.length/\y.length<=100/\
 (y.cps.toList.isPrefixOf (z.cps.toList.drop p)=false->Q (.bl false) H)/\(y.cps.toList.isPrefixOf (z.cps.toList.drop p)=true->∀H',But x H H'->H' x=some (.ins C dx (M4 z (p+y.length)))->Q (.bl true) H')
theorem Am:FnScope ["self","piece"] ["self","piece"] (B6 pI):=by walk_at"sc"
theorem IV{C:Addr}(F:Fun K "passes" "Reader.passes" pI f fd)(B:Blt mg)(c:ClsF K C jK):FnOk P w K mg base C6 1 f fd ["self","piece"] (cI C):=by
 refine F.ok Am (by walk_at"ln") (λcdv A outer s H vs Q E hr h=>?_);obtain⟨x,dx,z,y,p,rfl,hx,hp,hy,q0,q1⟩:=h;have hu:=F1 hr;have nd:=Am.nd;refine F4 (A4 (B9 (P3 (F8 K (K4 K PySem.F.plainAttrs_str PySem.F.slot_str_startswith PySem.F.type_str_startswith HC (S9 K (qv 0) rfl) (A0 (qv 1) (A0 (S9 K (qv 0) rfl) A1))) (λ_=>rfl))) (A7 (B3 N3)) C1)
  (A4 (wI K (qv 0) (E7 (L8 K) rfl B.len boot_len (A0 (qv 1) A1)) sR)
  (A7 (B3 N3)))) ?_
 refine⟨_,rfl,x,C,dx,_,_,rfl,hx,c.cls,c.no _ (!2),rfl,rfl,_,rfl,_,rfl,x,C,dx,_,_,rfl,hx,c.cls,c.no _ (!2),rfl,z,y,(p:Nat),rfl,rfl,_,rfl,?_⟩;rw[HI z y p hp];cases e:y.cps.toList.isPrefixOf (z.cps.toList.drop p)with
 |false=>exact C8 (q0 e)
 |true=>
  refine C0 ⟨_,rfl,x,C,dx,_,_,rfl,hx,c.cls,c.no _ (!2),rfl,_,rfl,N9 (G7 (!1)) ⟨_,_,rfl,rfl,?_⟩⟩;exact⟨dx,_,hx,by walk_at"few",q1 e _ (But.refl _ _).upd A6⟩
def pX(sg:Str)(pr:Nat->Bool):Prop:=∀c,c<128->Txt.contains sg ⟨#[c]⟩=pr c
def pY(C:Addr):Sp:=λvs H Q _=>∃(x dx:Addr)(z sg:Str)(p:Nat)(pr:Nat->Bool),vs=[.ref x,.str sg]/\H x=some (.ins C dx (M4 z p))/\p<=z.length/\z.length<=100000/\Asc z/\pX sg pr/\
 ∀H',But x H H'->H' x=some (.ins C dx (M4 z (p+((z.cps.toList.drop p).takeWhile pr).length)))->Q (.str (sL ((z.cps.toList.drop p).takeWhile pr))) H'
theorem IW{pr:Nat->Bool}{l:List Nat}{k c:Nat}(e:l[k]?=some c)(hk:∀j,j<k->∃d,l[j]?=some d/\pr d=true)(hc:pr c=false):(l.takeWhile pr).length=k:=by
 induction l generalizing k with
 |nil=>simp at e
 |cons a l ih=>
  cases k with
  |zero=>
   have:a=c:=by simpa using e
   rw[List.takeWhile_cons,this,hc];rfl
  |succ k=>
   obtain⟨d,h1,h2⟩:=hk 0 (!1);have:a=d:=by simpa using h1
   rw[List.takeWhile_cons,this,h2,if_pos rfl,length_cons,ih (by simpa using e) λj hj=>by simpa using hk (j+1) (!1)]
theorem IY{pr:Nat->Bool}{l:List Nat}(hk:∀j,j<l.length->∃d,l[j]?=some d/\pr d=true):(l.takeWhile pr).length=l.length:=by
 induction l with
 |nil=>rfl
 |cons a l ih=>
  obtain⟨d,h1,h2⟩:=hk 0 (!2);have:a=d:=by simpa using h1
  rw[List.takeWhile_cons,this,h2,if_pos rfl,length_cons,length_cons,ih λj hj=>by simpa using hk (j+1) (by simpa using hj)]
theorem An{pr:Nat->Bool}:∀l:List Nat,l.takeWhile pr=l.take (l.takeWhile pr).length
 |[]=>rfl
 |a::l=>by
  cases h:pr a with
  |false=>rw[List.takeWhile_cons,h];rfl
  |true=>
   have:=An (pr:=pr) l;rw[List.takeWhile_cons,h,if_pos rfl,length_cons,take_succ_cons,←this]
theorem iZ(z:Str)(a b:Nat)(h:a<=b)(hb:b<=z.length):(Txt.slice z (some ((a:Nat):Int)) (some ((b:Nat):Int))).cps.toList=(z.cps.toList.drop a).take (b-a):=by
 rw[show Txt.slice z (some ((a:Nat):Int)) (some ((b:Nat):Int))=_ from StrLaws.sliceText_nat z h hb]
theorem Ao:FnScope ["self","signs","begin"] ["self","signs"] (B6 pJ):=by walk_at"sc"
theorem IZ{C:Addr}(F:Fun K "stretch" "Reader.stretch" pJ f fd)(B:Blt mg)(c:ClsF K C jK):FnOk P w K mg base C6 1 f fd ["self","signs"] (pY C):=by
 refine F.ok Ao (by walk_at"ln") (λcdv A outer s H vs Q E hr h=>?_);obtain⟨x,dx,z,sg,p,pr,rfl,hx,hp,hl,hz,hsg,q⟩:=h;have hu:=F1 hr;have nd:=Ao.nd;have hzl:=A8 z;refine F4 (A4 (B0 (i:=2) nd rfl (Or.inl rfl) (S9 K (qv 0) rfl))
  (A4 (bQ PassesOwn.never (R9 (dM (D0 mK (S9 K (qv 0) rfl) (E7 (L8 K) rfl B.len boot_len (A0 (S9 K (qv 0) rfl) A1)) rfl) (hJ (D0 Q6 (E4 K hu (S9 K (qv 0) rfl) (S9 K (qv 0) rfl) (λ_ _=>rfl)) (qv 1) rfl)))) (A7 (wI K (qv 0) A2 sR)))
  (A7 (B3 (O7 (S9 K (qv 0) rfl) (L7 (qv 2)) (L7 (S9 K (qv 0) rfl))))))) ?_
 refine⟨_,rfl,x,C,dx,_,_,rfl,hx,c.cls,c.no _ (!2),rfl,?_⟩;refine⟨λm σ H'=>∃k:Nat,σ=[some (.ref x),some (.str sg),some (.int (p:Nat))]/\But x H H'/\H' x=some (.ins C dx (M4 z (p+k)))/\p+k<=z.length/\m=z.length-(p+k)/\∀j,j<k->∃d,(z.cps.toList.drop p)[j]?=some d/\pr d=true,⟨_,0,rfl,But.refl _ _,hx,hp,rfl,λj hj=>absurd hj (not_lt_zero _)⟩,?_⟩;rintro m _ H' ⟨k,rfl,bt,hx',hk,rfl,hpr⟩;have fin:((z.cps.toList.drop p).takeWhile pr).length=k->Q (.str (Txt.slice z (some ((p:Nat):Int)) (some ((p+k:Nat):Int)))) H':=λhlen=>by
  have e:Txt.slice z (some ((p:Nat):Int)) (some ((p+k:Nat):Int))=sL ((z.cps.toList.drop p).takeWhile pr):=by
   refine Q9 ?_;rw[Y7,An,hlen,iZ z p (p+k) (!1) hk,add_sub_cancel_left]
  rw[e];exact q H' bt (by rw[hlen];exact hx')
 refine⟨_,rfl,x,C,dx,_,_,rfl,hx',c.cls,c.no _ (!2),rfl,_,rfl,x,C,dx,_,_,rfl,hx',c.cls,c.no _ (!2),rfl,N9 (le_of_lt (E8 _ hl)) ⟨_,_,rfl,rfl,_,rfl,?_⟩⟩;by_cases hlt:p+k<z.length
 ·obtain⟨ch,hch⟩:∃ch,z.cps.toList[p+k]?=some ch:=⟨_,getElem?_eq_getElem (!1)⟩
  have hch':(z.cps.toList.drop p)[k]?=some ch:=by rw[List.getElem?_drop];exact hch
  have hasc:ch<128:=hz.at (show z.cps[p+k]?=some ch by rw[←hch];simp);refine F2 (decide_eq_true (!1)) ⟨_,rfl,x,C,dx,_,_,rfl,hx',c.cls,c.no _ (!2),rfl,_,rfl,x,C,dx,_,_,rfl,hx',c.cls,c.no _ (!2),rfl,O6 (le_of_lt (E8 _ hl)) (L1 hch) ⟨_,rfl,_,_,rfl,rfl,_,rfl,?_⟩⟩;rw[hsg ch hasc];cases hpc:pr ch with
  |false=>exact C0 ⟨_,rfl,x,C,dx,_,_,rfl,hx',c.cls,c.no _ (!2),rfl,_,rfl,_,rfl,_,rfl,x,C,dx,_,_,rfl,hx',c.cls,c.no _ (!2),rfl,_,rfl,z,rfl,le_of_lt (E8 _ hl),fin (IW hch' hpr hpc)⟩
  |true=>
   refine C8 ⟨fun σ H2=>∃m',m'<z.length-(p+k)/\∃k:Nat,σ=[some (.ref x),some (.str sg),some (.int (p:Nat))]/\But x H H2/\H2 x=some (.ins C dx (M4 z (p+k)))/\p+k<=z.length/\m'=z.length-(p+k)/\∀j,j<k->∃d,(z.cps.toList.drop p)[j]?=some d/\pr d=true,λ_ _ z=>z,?_⟩;refine⟨_,rfl,x,C,dx,_,_,rfl,hx',c.cls,c.no _ (!2),rfl,⟨_,_,rfl,rfl,dx,_,hx',by walk_at"few",?_⟩⟩;refine⟨_,?_,k+1,rfl,bt.upd,A6,!1,rfl,λj hj=>?_⟩
   ·omega
   ·rcases lt_or_ge j k with h|h
    ·exact hpr j h
    ·have:j=k:=by omega
     rw[this];exact⟨ch,hch',hpc⟩
 ·refine G3 (decide_eq_false (!1)) (C0 ⟨_,rfl,x,C,dx,_,_,rfl,hx',c.cls,c.no _ (!2),rfl,_,rfl,_,rfl,_,rfl,x,C,dx,_,_,rfl,hx',c.cls,c.no _ (!2),rfl,_,rfl,z,rfl,le_of_lt (E8 _ hl),fin ?_⟩)
  rw[IY,length_drop]
  ·omega
  ·intro j hj
   rw[length_drop]at hj;exact hpr j (!1)
def Ap(C:Addr):Sp:=λvs H Q _=>∃(x dx:Addr)(z:Str)(p:Nat),vs=[.ref x]/\H x=some (.ins C dx (M4 z p))/\z.length<=100000/\Q (.bl (decide (p=z.length))) H
theorem Aq:FnScope ["self"] ["self"] (B6 pK):=by walk_at"sc"
theorem Ja{C:Addr}(F:Fun K "ended" "Reader.ended" pK f fd)(B:Blt mg)(c:ClsF K C jK):FnOk P w K mg base C6 1 f fd ["self"] (Ap C):=by
 refine F.ok Aq (by walk_at"ln") (λcdv A outer s H vs Q E hr h=>?_);obtain⟨x,dx,z,p,rfl,hx,hl,q⟩:=h;have hu:=F1 hr;have nd:=Aq.nd;refine F4 (A7 (B3 (R7 J0 (S9 K (qv 0) rfl) (E7 (L8 K) rfl B.len boot_len (A0 (S9 K (qv 0) rfl) A1)) rfl))) ?_;refine⟨_,rfl,x,C,dx,_,_,rfl,hx,c.cls,c.no _ (!2),rfl,_,rfl,x,C,dx,_,_,rfl,hx,c.cls,c.no _ (!2),rfl,N9 (le_of_lt (E8 _ hl)) ⟨rfl,?_⟩⟩;have e:decide (V.int (p:Nat)=V.int (z.length:Nat))=decide (p=z.length):=by
  rw[Bool.eq_iff_iff,decide_eq_true_iff,decide_eq_true_iff];exact⟨λh=>by have:=V.int.inj h;omega,λh=>by rw[h]⟩
 rw[e];exact q
end
end K04
namespace K04
open PySem L2 Rg
section
variable{P:Program}{w:World}{K:Frag}{mg:Str->Option Value}{base:Heap}{f:Addr}{fd:FuncData}
def eV(C CB:Addr):Sp:=λvs H Q E=>∃(x dx:Addr)(z y:Str)(p:Nat),vs=[.ref x,.str y]/\H x=some (.ins C dx (M4 z p))/\p<=z.length/\y.length<=100/\
 (y.cps.toList.isPrefixOf (z.cps.toList.drop p)=false->E (.ref CB) none H)/\(y.cps.toList.isPrefixOf (z.cps.toList.drop p)=true->∀H',But x H H'->H' x=some (.ins C dx (M4 z (p+y.length)))->Q .non H')
theorem Ar:FnScope ["reader","piece"] ["reader","piece"] (B6 pP):=by walk_at"sc"
theorem Jb{C CB G:Addr}(F:Fun K "must_pass" "must_pass" pP f fd)(B:Blt mg)(h_BadThing:HasN P w K mg base "BadThing" CB G)(h_Reader_passes:Q5 P w K mg base C "passes" 1 ["self","piece"] (cI C)):FnOk P w K mg base (G8 P w) 2 f fd ["reader","piece"] (eV C CB):=by
 refine Fun.okx F Ar (by walk_at"ln") (λcdv A outer s H vs Q E hr h=>?_);obtain⟨x,dx,z,y,p,rfl,hx,hp,hy,q0,q1⟩:=h;have hu:=F1 hr;have nd:=Ar.nd;refine F4 (A7 (B9 (P3 (F8 K (W5 h_Reader_passes hr (!3) (qv 0) (A0 (qv 1) A1)) (λ_=>rfl))) (A7 (Y6 h_BadThing hr rfl (A0 A5 A1))) C1)) ?_;refine⟨_,rfl,x,dx,_,rfl,hx,rfl,_,rfl,x,dx,z,y,p,rfl,hx,hp,hy,λe=>⟨_,rfl,?_⟩,λe H' b hx'=>⟨_,rfl,?_⟩⟩
 ·exact C8 ⟨!3,q0 e⟩
 ·exact C0 (q1 e H' b hx')
theorem Jc:pX ("abcdefghijklmnopqrstuvwxyz"++"0123456789"++"-") G5:=by
 have:∀c<128,Txt.contains ("abcdefghijklmnopqrstuvwxyz"++"0123456789"++"-") ⟨#[c]⟩=G5 c:=by decide +kernel
 exact this
theorem Jd:pX "abcdefghijklmnopqrstuvwxyz" K0:=by
 have:∀c<128,Txt.contains "abcdefghijklmnopqrstuvwxyz" ⟨#[c]⟩=K0 c:=by decide +kernel
 exact this
theorem As{z:Str}(hz:Asc z){w:List Nat}(h:∀c∈w,c∈z.cps.toList):Asc (sL w):=N5.mpr λc hc=>N5.mp hz c (h c hc)
theorem Au{pr:Nat->Bool}(l:List Nat)(p:Nat):l.drop (p+((l.drop p).takeWhile pr).length)=(l.drop p).dropWhile pr:=by
 rw[←drop_drop];generalize l.drop p=m
 induction m with
 |nil=>rfl
 |cons a m ih=>
  cases h:pr a with
  |false=>rw[List.takeWhile_cons,List.dropWhile_cons,h];rfl
  |true=>rw[List.takeWhile_cons,List.dropWhile_cons,h,if_pos rfl,if_pos rfl,length_cons,List.drop_succ_cons,ih]
theorem Av{pr:Nat->Bool}(z:Str){p:Nat}(hp:p<=z.length):p+((z.cps.toList.drop p).takeWhile pr).length<=z.length:=by
 have h1:((z.cps.toList.drop p).takeWhile pr).length<=(z.cps.toList.drop p).length:=(List.takeWhile_sublist pr).length_le;rw[length_drop,←A8]at h1;omega
def pZ(C CB:Addr):Sp:=λvs H Q E=>∃(x dx:Addr)(z:Str)(p:Nat),vs=[.ref x]/\H x=some (.ins C dx (M4 z p))/\p<=z.length/\z.length<=100000/\Asc z/\
 (U9 (z.cps.toList.drop p)=none->∀H',Same (F9 H x) H'->E (.ref CB) none H')/\
 (∀t r,U9 (z.cps.toList.drop p)=some (t,r)->∀(v:V)(p':Nat) H',Same (F9 H x) H'->H' x=some (.ins C dx (M4 z p'))->p'<=z.length->z.cps.toList.drop p'=r->(∀G:Hp,Rep G t v)->Q v H')
theorem But.sm{x:Addr}{H H':Hp}(h:But x H H'):Same (F9 H x) H':=λb o e=>by
 have hb:b≠x:=λz=>by rw[z,Y5]at e;cases e
 rw[K8 hb]at e;rw[h b hb,e]
theorem Je{x:Addr}{H H':Hp}(h:Same H H'):Same (F9 H x) H':=λb o e=>by
 have hb:b≠x:=λz=>by rw[z,Y5]at e;cases e
 rw[K8 hb]at e;exact h b o e
theorem Aw:FnScope ["reader","text"] ["reader"] (B6 pN):=by walk_at"sc"
theorem Jf{C CB G0:Addr}(F:Fun K "read_atom" "read_atom" pN f fd)(B:Blt mg)(G:Glo mg)(h_BadThing:HasN P w K mg base "BadThing" CB G0)(h_Reader_stretch:Q5 P w K mg base C "stretch" 1 ["self","signs"] (pY C))(h_is_name:D8 P w K mg base "is_name" 1 ["text"] cH)(h_is_number:D8 P w K mg base "is_number" 1 ["text"] jJ):FnOk P w K mg base (G8 P w) 2 f fd ["reader"] (pZ C CB):=by
 refine Fun.okx F Aw (by walk_at"ln") (λcdv A outer s H vs Q E hr h=>?_);obtain⟨x,dx,z,p,rfl,hx,hp,hl,hz,q0,q1⟩:=h;have hu:=F1 hr;have nd:=Aw.nd;refine F4 (A4 (B0 (i:=1) nd rfl (Or.inl rfl) (W5 h_Reader_stretch hr (!3) (qv 0) (A0 (A3 (B5 K) (A3 (B5 K) (dU rfl G.LETTERS) (dU rfl G.FIGURES)) A5) A1)))
  (A4 (B9 (F8 K (D9 h_is_name hr (!3) rfl (A0 (qv 1) A1)) (λ_=>rfl)) (A7 (B3 (qv 1))) C1)
  (A4 (B9 (F8 K (D9 h_is_number hr (!3) rfl (A0 (qv 1) A1)) (λ_=>rfl)) (A7 (B3 (U4 iD rfl B.int boot_int (A0 (qv 1) A1)))) C1)
  (A7 (Y6 h_BadThing hr rfl (A0 A5 A1)))))) ?_
 refine⟨_,rfl,x,dx,_,rfl,hx,rfl,K3 (!0) (K3 (!0) ⟨x,dx,z,_,p,G5,rfl,hx,hp,hl,hz,Jc,λH1 b1 hx1=>?_⟩)⟩;have hdl:=Au (pr:=G5) z.cps.toList p;have hpl:=Av (pr:=G5) z hp;unfold U9 at q0 q1;generalize hw:(z.cps.toList.drop p).takeWhile G5=w0 at *;generalize p+w0.length=p1 at *;have hwz:∀c∈w0,c∈z.cps.toList:=λc hc=>List.mem_of_mem_drop ((List.takeWhile_sublist G5).mem (hw ▸ hc))
 have ha:Asc (sL w0):=As hz hwz;have hwl:(sL w0).length<=100000:=by
  rw[A8,Y7,←hw];have h1:((z.cps.toList.drop p).takeWhile G5).length<=(z.cps.toList.drop p).length:=(List.takeWhile_sublist G5).length_le;rw[length_drop,←A8]at h1;omega
 refine⟨_,rfl,_,rfl,ha,hwl,λH2 s2=>⟨_,rfl,?_⟩⟩;have S2:Same (F9 H x) H2:=b1.sm.trans s2;have en:K5 (sL w0)=C7 (sL w0):=rfl;rw[en];cases h1:C7 (sL w0)with
 |true=>
  refine C8 ⟨_,rfl,q1 (.word (sL w0)) _ ?_ _ p1 H2 S2 (s2 _ _ hx1) hpl hdl λ_=>rfl⟩;rw[if_pos h1]
 |false=>
  refine C0 ⟨_,rfl,_,rfl,ha,hwl,λH3 s3=>⟨_,rfl,?_⟩⟩;cases h2:J2 (sL w0)with
  |true=>
   obtain⟨n,hn,hz',hi⟩:=dX h2;refine C8 ⟨_,rfl,.inr ⟨_,n,rfl,hi,?_,q1 (.num n) _ ?_ _ p1 H3 (S2.trans s3) (s3 _ _ (s2 _ _ hx1)) hpl hdl λ_=>rfl⟩⟩
   ·rw[hz']
    have:=(iG hn).2.1;omega
   ·rw[if_neg (by rw[h1];simp),if_pos h2,hi]
    rfl
  |false=>
   refine C0 ⟨!3,q0 ?_ H3 (S2.trans s3)⟩;rw[if_neg (by rw[h1];simp),if_neg (by rw[h2];simp)]
theorem P8{a:Nat}{s:List Nat}:([a].isPrefixOf s=true->L9 a s=some (s.drop 1))/\([a].isPrefixOf s=false->L9 a s=none):=by
 cases s with
 |nil=>exact⟨λh=>(by cases h),λ_=>rfl⟩
 |cons c r=>
  rw[eA,show[a].isPrefixOf (c::r)=(a==c&&([]:List Nat).isPrefixOf r)from rfl,List.isPrefixOf_nil_left,Bool.and_true];by_cases e:c=a
  ·rw[if_pos e,e]
   exact⟨λ_=>rfl,λh=>by simp at h⟩
  ·rw[if_neg e]
   exact⟨λh=>absurd (beq_iff_eq.mp h).symm e,λ_=>rfl⟩
theorem aP{a b:Nat}{s:List Nat}:([a,b].isPrefixOf s=true->O1 a b s=some (s.drop 2))/\([a,b].isPrefixOf s=false->O1 a b s=none):=by
 cases s with
 |nil=>exact⟨λh=>(by cases h),λ_=>rfl⟩
 |cons c r=>
  rw[show[a,b].isPrefixOf (c::r)=(a==c&&[b].isPrefixOf r)from rfl];unfold O1;rw[eA];by_cases e:c=a
  ·rw[if_pos e,e,beq_self_eq_true,Bool.true_and]
   exact⟨λh=>P8.1 h,λh=>P8.2 h⟩
  ·rw[if_neg e,beq_eq_false_iff_ne.mpr (Ne.symm e)]
   exact⟨λh=>(by cases h),λ_=>rfl⟩
def qA(C CB:Addr):Sp:=λvs H Q E=>∃(x dx:Addr)(z last:Str)(p:Nat),vs=[.ref x,.str last]/\H x=some (.ins C dx (M4 z p))/\p<=z.length/\z.length<=100000/\Asc z/\last.length<=100/\
 (P6 last (z.cps.toList.drop p)=none->∀H',Same (F9 H x) H'->E (.ref CB) none H')/\
 (∀k r,P6 last (z.cps.toList.drop p)=some (k,r)->∀(p':Nat) H',Same (F9 H x) H'->H' x=some (.ins C dx (M4 z p'))->p'<=z.length->z.cps.toList.drop p'=r->Q (.str k) H')
theorem Ax:FnScope ["reader","last","field"] ["reader","last"] (B6 pO):=by walk_at"sc"
theorem Jg{C CB G0:Addr}(F:Fun K "read_field" "read_field" pO f fd)(B:Blt mg)(G:Glo mg)(h_BadThing:HasN P w K mg base "BadThing" CB G0)(h_Reader_stretch:Q5 P w K mg base C "stretch" 1 ["self","signs"] (pY C))(h_is_name:D8 P w K mg base "is_name" 1 ["text"] cH)(h_word_key:D8 P w K mg base "word_key" 1 ["word"] X3)(h_must_pass:M6 P w K mg base "must_pass" 2 ["reader","piece"] (eV C CB)):FnOk P w K mg base (G8 P w) 3 f fd ["reader","last"] (qA C CB):=by
 refine Fun.okx F Ax (by walk_at"ln") (λcdv A outer s H vs Q E hr h=>?_);obtain⟨x,dx,z,last,p,rfl,hx,hp,hl,hz,hlast,q0,q1⟩:=h;have hu:=F1 hr;have nd:=Ax.nd;refine F4 (A4 (B0 (i:=2) nd rfl (Or.inl rfl) (W5 h_Reader_stretch hr (!3) (qv 0) (A0 (dU rfl G.LETTERS) A1)))
  (A4 (B9 (P3 (F8 K (D9 h_is_name hr (!3) rfl (A0 (qv 2) A1)) (λ_=>rfl))) (A7 (Y6 h_BadThing hr rfl (A0 A5 A1))) C1)
  (A4 (B9 (D0 (zH hr) (D9 h_word_key hr (!3) rfl (A0 (qv 2) A1)) (D9 h_word_key hr (!3) rfl (A0 (qv 1) A1)) rfl) (A7 (Y6 h_BadThing hr rfl (A0 A5 A1))) C1)
  (A4 (P4 (Q8 h_must_pass Q7 hr (!3) rfl (A0 (qv 0) (A0 A5 A1))))
  (A7 (B3 (qv 2))))))) ?_
 refine⟨_,rfl,x,dx,_,rfl,hx,rfl,x,dx,z,_,p,K0,rfl,hx,hp,hl,hz,Jd,λH1 b1 hx1=>?_⟩;have hdl:=Au (pr:=K0) z.cps.toList p;have hpl:=Av (pr:=K0) z hp;unfold P6 at q0 q1;generalize hw:(z.cps.toList.drop p).takeWhile K0=w0 at *;generalize p+w0.length=p1 at *;have hwz:∀c∈w0,c∈z.cps.toList:=λc hc=>List.mem_of_mem_drop ((List.takeWhile_sublist K0).mem (hw ▸ hc))
 have ha:Asc (sL w0):=As hz hwz;have hwl:(sL w0).length<=100000:=by
  rw[A8,Y7,←hw];have h1:((z.cps.toList.drop p).takeWhile K0).length<=(z.cps.toList.drop p).length:=(List.takeWhile_sublist K0).length_le;rw[length_drop,←A8]at h1;omega
 refine⟨_,rfl,_,rfl,ha,hwl,λH2 s2=>⟨_,rfl,?_⟩⟩;have S2:Same (F9 H x) H2:=b1.sm.trans s2;have en:K5 (sL w0)=C7 (sL w0):=rfl;rw[en];cases h1:C7 (sL w0)with
 |false=>
  refine C8 ⟨!3,q0 ?_ H2 S2⟩;rw[if_neg (by rw[h1];simp)]
 |true=>
  have h8:(sL w0).length<=1000:=by
   unfold C7 at h1;simp only[Bool.and_eq_true,decide_eq_true_eq]at h1;omega
  refine C0 ⟨_,rfl,_,rfl,h8,λa1 n1=>⟨_,rfl,_,rfl,!1,λa2 n2=>⟨a1,a2,sL w0,last,rfl,rfl,J9 (Ne.symm (nx n2)) A6,A6,_,rfl,?_⟩⟩⟩;have S4:=S2.trans ((B2 n1 (.tup (M9 (sL w0)))).trans (B2 n2 (.tup (M9 last))));have hx4:=B2 n2 (.tup (M9 last)) _ _ (B2 n1 (.tup (M9 (sL w0))) _ _ (s2 _ _ hx1));generalize upd (upd H2 a1 (.tup (M9 (sL w0)))) a2 (.tup (M9 last))=H4 at S4 hx4 ⊢;cases h2:C3 last (sL w0)with
  |false=>
   refine C8 ⟨!3,q0 ?_ H4 S4⟩;rw[if_neg (by rw[h2];simp)]
  |true=>
   have hc:C7 (sL w0)=true/\C3 last (sL w0)=true:=⟨h1,h2⟩;refine C0 ⟨_,rfl,x,dx,z,": ",p1,rfl,hx4,hpl,!0,λe=>q0 ?_ H4 S4,λe H5 b5 hx5=>⟨_,rfl,q1 (sL w0) (((z.cps.toList.drop p).dropWhile K0).drop 2) ?_ (p1+2) H5 (λb o e'=>?_) hx5 ?_ ?_⟩⟩
   ·rw[if_pos hc]
    have e2:=aP.2 (show[58,32].isPrefixOf (z.cps.toList.drop p1)=false from e);rw[←hdl,e2];rfl
   ·rw[if_pos hc]
    have e2:=aP.1 (show[58,32].isPrefixOf (z.cps.toList.drop p1)=true from e);rw[←hdl,e2];rfl
   ·have hb:b≠x:=λz=>by rw[z,Y5]at e';cases e'
    rw[b5 b hb];exact S4 b o e'
   ·have e2:=iJ (aP.1 (show[58,32].isPrefixOf (z.cps.toList.drop p1)=true from e))
    have:=congrArg length e2;rw[length_drop,←A8,length_cons,length_cons]at this;omega
   ·rw[←drop_drop,hdl]
end
end K04
namespace K04
open PySem L2 Rg
section
variable{P:Program}{w:World}{K:Frag}{mg:Str->Option Value}{base:Heap}{f:Addr}{fd:FuncData}
structure RdAt(C x dx:Addr)(z:Str)(p:Nat)(H:Hp):Prop where
 at_:H x=some (.ins C dx (M4 z p))
 pl:p<=z.length
 ln:z.length<=100000
 asc:Asc z
def T5(C CB:Addr)(l:Int)(rd:List Nat->Option (Th×List Nat)):Sp:=λvs H Q E=>∃(x dx:Addr)(z:Str)(p:Nat),vs=[.ref x,.int l]/\RdAt C x dx z p H/\
 (rd (z.cps.toList.drop p)=none->∀H',Same (F9 H x) H'->E (.ref CB) none H')/\
 (∀t r,rd (z.cps.toList.drop p)=some (t,r)->∀(v:V)(p':Nat) H',Same (F9 H x) H'->RdAt C x dx z p' H'->z.cps.toList.drop p'=r->Rep (J1 H H') t v->Q v H')
theorem J7{x:Addr}{H H' H'':Hp}(h:Same (F9 H x) H')(h':Same (F9 H' x) H''):Same (F9 H x) H'':=λb o e=>by
 have hb:b≠x:=λz=>by rw[z,Y5]at e;cases e
 have:=h b o e;exact h' b o (by rw[K8 hb];exact this)
theorem Ay{x l:Addr}{H:Hp}(hl:H l=none){o:HO}:Same (F9 H x) (upd H l o):=λb u e=>by
 have hb:b≠x:=λz=>by rw[z,Y5]at e;cases e
 rw[K8 hb]at e;rw[B4 (E5 e hl)];exact e
theorem jL{x l:Addr}{H H':Hp}(hl:H l=none)(h:Same (F9 H x) H'){o:HO}:Same (F9 H x) (upd H' l o):=λb u e=>by
 have hb:b≠x:=λz=>by rw[z,Y5]at e;cases e
 have e2:=e;rw[K8 hb]at e2;rw[B4 (E5 e2 hl)];exact h b u e
theorem V2{x:Addr}{H H':Hp}(h:Same (F9 H x) H'){o:HO}(hx:H' x=some o):Dom H H':=λb hb=>by
 by_cases e:b=x
 ·rw[e,hx];simp
 ·cases q:H b with
  |none=>exact absurd q hb
  |some u=>
   rw[h b u (by rw[K8 e];exact q)];simp
theorem aQ{G H H':Hp}{x:Addr}(hx:G x≠none)(h:Same (F9 H x) H'):Same (J1 G H) (J1 G H'):=λb o e=>by
 obtain⟨e1,e2⟩:=iB e;have hb:b≠x:=λz=>hx (by rw[←z];exact e1)
 exact W6 e1 (h b o (by rw[K8 hb];exact e2))
theorem RdAt.but{C x dx:Addr}{z:Str}{p p':Nat}{H H':Hp}(r:RdAt C x dx z p H)(h:H' x=some (.ins C dx (M4 z p')))(hp:p'<=z.length):RdAt C x dx z p' H':=⟨h,hp,r.ln,r.asc⟩
theorem Jh{ys s:List Nat}(h:ys.isPrefixOf s=true):ys.length<=s.length:=(List.isPrefixOf_iff_prefix.mp h).length_le
theorem RdAt.on{C x dx:Addr}{z y:Str}{p:Nat}{H H':Hp}(r:RdAt C x dx z p H)(h:H' x=some (.ins C dx (M4 z (p+y.length))))(e:y.cps.toList.isPrefixOf (z.cps.toList.drop p)=true):RdAt C x dx z (p+y.length) H':=by
 refine r.but h ?_;have:=Jh e;rw[length_drop,←A8,←A8]at this;have:=r.pl;omega
theorem Ji{rd:List Nat->Option (Th×List Nat)}{n:Nat}{s r:List Nat}(h:O1 44 32 s=some r):M7 rd (n+1) s=(rd r).bind λp=>(M7 rd n p.2).map λq=>(.cons Str.empty p.1 q.1,q.2):=by rw[M7,h]
theorem Jj{rd:List Nat->Option (Th×List Nat)}{n:Nat}{s:List Nat}(h:O1 44 32 s=none):M7 rd (n+1) s=(L9 93 s).map λr=>(.nil,r):=by rw[M7,h]
theorem Jk{rd:List Nat->Option (Th×List Nat)}{n:Nat}{last:Str}{s r:List Nat}(h:O1 44 32 s=some r):M0 rd (n+1) last s=(P6 last r).bind λf=>(rd f.2).bind λp=>(M0 rd n f.1 p.2).map λq=>(.cons f.1 p.1 q.1,q.2):=by rw[M0,h]
theorem Jl{rd:List Nat->Option (Th×List Nat)}{n:Nat}{last:Str}{s:List Nat}(h:O1 44 32 s=none):M0 rd (n+1) last s=(L9 125 s).map λr=>(.nil,r):=by rw[M0,h]
theorem jM{d:Nat}{s r:List Nat}{t:Th}(h:B7 d s=some (t,r)):r.length+1<=s.length:=by
 obtain⟨e,hw,_⟩:=nH d s t r h;obtain⟨c,q,e2,_⟩:=eE hw;rw[e,e2,length_append,length_cons];omega
theorem O3{z:Str}{p:Nat}(h:p<=z.length):(z.cps.toList.drop p).length=z.length-p:=by rw[length_drop,←A8]
theorem Az:FnScope ["reader","level","row"] ["reader","level"] (B6 jD):=by walk_at"sc"
theorem Jm{C CB G0:Addr}{d:Nat}(hd:d<=20)(F:Fun K "read_row" "read_row" jD f fd)(B:Blt mg)(h_BadThing:HasN P w K mg base "BadThing" CB G0)(h_Reader_passes:Q5 P w K mg base C "passes" 1 ["self","piece"] (cI C))(h_must_pass:M6 P w K mg base "must_pass" 2 ["reader","piece"] (eV C CB))(h_read_thing:M6 P w K mg base "read_thing" (2*d+6) ["reader","level"] (T5 C CB (21-(d:Nat)) (B7 d))):FnOk P w K mg base (G8 P w) (2*d+7) f fd ["reader","level"] (T5 C CB (20-(d:Nat)) (R1 (B7 d))):=by
 refine Fun.okx F Az (by walk_at"ln") (λcdv A outer s H vs Q E hr h=>?_);obtain⟨x,dx,z,p,rfl,rd,q0,q1⟩:=h;have hu:=F1 hr;have nd:=Az.nd;refine F4 (A4 (B0 (i:=2) nd rfl (Or.inl rfl) (G4 A1))
  (A4 (B9 (F8 K (W5 h_Reader_passes hr (!1) (qv 0) (A0 A5 A1)) (λ_=>rfl)) (A7 (B3 (qv 2))) C1)
  (A4 (P4 (K4 K PySem.F.plainAttrs_list PySem.F.slot_list_append PySem.F.type_list_append W4 (qv 2) (A0 (Q8 h_read_thing Q7 hr (!1) rfl (A0 (qv 0) (A0 (A3 (B5 K) (qv 1) A2) A1))) A1)))
  (A4 (bQ xF (F8 K (W5 h_Reader_passes hr (!1) (qv 0) (A0 A5 A1)) (λ_=>rfl)) (A7 (P4 (K4 K PySem.F.plainAttrs_list PySem.F.slot_list_append PySem.F.type_list_append W4 (qv 2) (A0 (Q8 h_read_thing Q7 hr (!1) rfl (A0 (qv 0) (A0 (A3 (B5 K) (qv 1) A2) A1))) A1)))))
  (A4 (P4 (Q8 h_must_pass Q7 hr (!1) rfl (A0 (qv 0) (A0 A5 A1))))
  (A7 (B3 (qv 2)))))))) ?_
 have elev:[V.ref x,V.int (20-(d:Int)+1)]=[V.ref x,V.int (21-(d:Int))]:=by rw[show(20:Int)-d+1=21-d by omega]
 refine⟨zero_le _,λl hl=>?_⟩;have hxl:x≠l:=E5 rd.at_ hl;have S01:Same (F9 H x) (upd H l (.lst [])):=Ay hl;have hx1:upd H l (.lst []) x=some (.ins C dx (M4 z p)):=J9 hxl rd.at_;have hl1:upd H l (.lst []) l=some (.lst []):=A6;have D01:Dom H (upd H l (.lst [])):=V2 S01 hx1;generalize upd H l (.lst [])=H1 at S01 hx1 hl1 D01 ⊢;have gx:H1 x≠none:=by rw[hx1];simp
 have gl:H1 l≠none:=by rw[hl1];simp
 refine⟨_,rfl,x,dx,_,rfl,hx1,rfl,x,dx,z,"]",p,rfl,hx1,rd.pl,!0,λe=>⟨_,rfl,C0 ?_⟩,λe H2 b2 hx2=>⟨_,rfl,C8 ⟨_,rfl,?_⟩⟩⟩
 ·have e1:=P8.2 (show[93].isPrefixOf (z.cps.toList.drop p)=false from e)
  have er:∀o,B7 d (z.cps.toList.drop p)=o->R1 (B7 d) (z.cps.toList.drop p)=o.bind λp=>(M7 (B7 d) (p.2.length+1) p.2).map λq=>(.row (.cons Str.empty p.1 q.1),q.2):=λo ho=>by
   unfold R1;rw[e1,ho]
  refine⟨_,rfl,.inl ⟨rfl,_,SqL.of hl1⟩,_,rfl,_,rfl,J3 ⟨x,dx,z,p,elev,⟨hx1,rd.pl,rd.ln,rd.asc⟩,λh0 H2 s2=>q0 (by rw[er _ h0];rfl) H2 (J7 S01 s2),λt1 r1 h1 v1 p2 H2 s2 rd2 hr2 rep2=>?_⟩⟩;have hl2:H2 l=some (.lst []):=s2 _ _ (by rw[K8 (Ne.symm hxl)];exact hl1);have hle:=jM h1;rw[←hr2,O3 rd2.pl,O3 rd.pl]at hle;have hlp:=rd.pl;have hlp2:=rd2.pl;have hln:=rd.ln;have D2:Dom H1 H2:=V2 s2 rd2.at_;refine⟨l,_,_,rfl,rfl,hl2,by show 0<sizeLine;decide,?_⟩;refine⟨λm σ H'=>∃(p' n:Nat)(ys:List V)(acc:Ts),σ=[some (.ref x),some (.int (20-(d:Int))),some (.ref l)]/\Same (F9 H x) H'/\RdAt C x dx z p' H'/\H' l=some (.lst ys)/\RepR (J1 H1 H') acc ys/\Dom H1 H'/\ys.length<=p'/\m=z.length-p'/\(z.cps.toList.drop p').length<n/\
    R1 (B7 d) (z.cps.toList.drop p)=(M7 (B7 d) n (z.cps.toList.drop p')).map λq=>(.row (acc.app q.1),q.2),
   ⟨_,p2,r1.length+1,[v1],.cons Str.empty t1 .nil,rfl,jL hl (J7 S01 s2),rd2.but (J9 hxl rd2.at_) rd2.pl,A6,?_,D2.upd,by show 1<=p2;omega,rfl,by rw[hr2];omega,?_⟩,?_⟩
  ·rw[dQ gl]
   exact⟨v1,[],rfl,rep2,rfl⟩
  ·rw[er _ h1,hr2]
   rfl
  rintro m _ H' ⟨p',n,ys,acc,rfl,sm,rd',hl',rep,D',hyl,rfl,hn,her⟩;have hlp':=rd'.pl;obtain⟨n,rfl⟩:∃k,n=k+1:=⟨n-1,!1⟩
  refine⟨_,rfl,x,dx,_,rfl,rd'.at_,rfl,x,dx,z,", ",p',rfl,rd'.at_,rd'.pl,!0,λe=>⟨_,rfl,C0 ?_⟩,λe H3 b3 hx3=>⟨_,rfl,C8 ?_⟩⟩
  ·have e2:=aP.2 (show[44,32].isPrefixOf (z.cps.toList.drop p')=false from e)
   rw[Jj e2]at her;refine⟨_,rfl,x,dx,z,"]",p',rfl,rd'.at_,rd'.pl,!0,λe3=>?_,λe3 H3 b3 hx3=>⟨_,rfl,?_⟩⟩
   ·have e4:=P8.2 (show[93].isPrefixOf (z.cps.toList.drop p')=false from e3)
    rw[e4]at her;exact q0 her _ sm
   ·have e4:=P8.1 (show[93].isPrefixOf (z.cps.toList.drop p')=true from e3)
    rw[e4]at her;refine q1 _ _ her _ _ H3 (J7 sm b3.sm) (rd'.on (y:="]") hx3 e3) (by rw[drop_drop];rfl) ?_;show Rep (J1 H H3) (.row (acc.app .nil)) (.ref l);rw[Ts.app_nil];have hl3:H3 l=some (.lst ys):=by rw[b3 l (Ne.symm hxl)];exact hl'
    exact⟨l,ys,rfl,W6 hl hl3,(rep.mono (aQ gx b3.sm)).mono (T2 D01)⟩
  ·have e2:=aP.1 (show[44,32].isPrefixOf (z.cps.toList.drop p')=true from e)
   rw[Ji e2,drop_drop]at her;have rd3:=rd'.on (y:=", ") hx3 e;have hp3:p'+(", " : Str).length=p'+2:=rfl;rw[hp3]at rd3;have hl3:H3 l=some (.lst ys):=by rw[b3 l (Ne.symm hxl)];exact hl'
   have s3:=J7 sm b3.sm;refine⟨fun σ H2=>∃m',m'<z.length-p'/\∃(p' n:Nat)(ys:List V)(acc:Ts),σ=[some (.ref x),some (.int (20-(d:Int))),some (.ref l)]/\Same (F9 H x) H2/\RdAt C x dx z p' H2/\H2 l=some (.lst ys)/\RepR (J1 H1 H2) acc ys/\Dom H1 H2/\ys.length<=p'/\m'=z.length-p'/\(z.cps.toList.drop p').length<n/\
    R1 (B7 d) (z.cps.toList.drop p)=(M7 (B7 d) n (z.cps.toList.drop p')).map λq=>(.row (acc.app q.1),q.2),λ_ _ z=>z,?_⟩
   refine⟨_,rfl,.inl ⟨rfl,_,SqL.of hl3⟩,_,rfl,_,rfl,J3 ⟨x,dx,z,p'+2,elev,rd3,λh0 H4 s4=>q0 (by rw[her,h0];rfl) H4 (J7 s3 s4),λt4 r4 h4 v4 p4 H4 s4 rd4 hr4 rep4=>?_⟩⟩;rw[h4]at her;have hl4:H4 l=some (.lst ys):=s4 _ _ (by rw[K8 (Ne.symm hxl)];exact hl3);have hle4:=jM h4;rw[←hr4,O3 rd4.pl,O3 rd3.pl]at hle4;have h3p:=rd3.pl;have h4p:=rd4.pl;have D3:Dom H1 H3:=λb hb=>by
    by_cases eb:b=x
    ·rw[eb,hx3];simp
    ·rw[b3 b eb];exact D' b hb
   have D4:Dom H3 H4:=V2 s4 rd4.at_;rw[O3 rd'.pl]at hn;refine⟨l,_,_,rfl,rfl,hl4,lt_of_le_of_lt (show ys.length<=100000 by omega) (!3),_,?_,p4,n,ys++[v4],acc.snoc Str.empty t4,rfl,jL hl (J7 s3 s4),rd4.but (J9 hxl rd4.at_) rd4.pl,A6,?_,(D3.trans D4).upd,by rw[length_append];show ys.length+1<=p4;omega,rfl,by rw[O3 rd4.pl];omega,?_⟩
   ·omega
   ·rw[dQ gl]
    exact RepR.snoc (rep4.mono (T2 D3)) ((rep.mono (aQ gx b3.sm)).mono (aQ gx s4))
   ·rw[her,←hr4]
    show((M7 (B7 d) n (z.cps.toList.drop p4)).map _).map _=_;rw[Option.map_map]
    congr 1
    funext q
    show _=(Th.row ((acc.snoc Str.empty t4).app q.1),q.2);rw[Ts.snoc_app];rfl
 ·have e1:=P8.1 (show[93].isPrefixOf (z.cps.toList.drop p)=true from e)
  have er:R1 (B7 d) (z.cps.toList.drop p)=some (.row .nil,(z.cps.toList.drop p).drop 1):=by
   unfold R1;rw[e1]
  refine q1 _ _ er _ _ H2 (J7 S01 b2.sm) (RdAt.on (H:=H1) (y:="]") ⟨hx1,rd.pl,rd.ln,rd.asc⟩ hx2 e) (by rw[drop_drop];rfl) ⟨l,[],rfl,W6 hl ?_,rfl⟩;rw[b2 l (Ne.symm hxl)];exact hl1
end
end K04
namespace K04
open PySem L2 Rg
section
variable{P:Program}{w:World}{K:Frag}{mg:Str->Option Value}{base:Heap}{f:Addr}{fd:FuncData}
theorem AA{last k:Str}{s r:List Nat}(h:P6 last s=some (k,r)):r.length+3<=s.length/\k.length<=100/\C3 last k=true:=by
 obtain⟨e,h1,h2⟩:=nG h;have h8:1<=k.length/\k.length<=8:=by
  unfold C7 at h1;simp only[Bool.and_eq_true,decide_eq_true_eq]at h1;exact h1.1
 rw[A8]at h8;refine⟨?_,by rw[A8];omega,h2⟩;rw[e,length_append,length_cons,length_cons];omega
theorem Jn{acc:Ts}{last k:Str}(hi:∀j∈acc.keys,j=last∨C3 j last=true)(h:C3 last k=true):¬k∈acc.keys:=λhm=>by
 rcases hi k hm with e|e
 ·rw[e,oJ]at h;cases h
 ·have:=oK e h
  rw[oJ]at this;cases this
theorem Jo{acc:Ts}{last k:Str}{t:Th}(hi:∀j∈acc.keys,j=last∨C3 j last=true)(h:C3 last k=true):∀j∈(acc.snoc k t).keys,j=k∨C3 j k=true:=λj hj=>by
 rw[Ts.snoc_keys]at hj;rcases mem_append.mp hj with hj|hj
 ·rcases hi j hj with e|e
  ·exact .inr (by rw[e];exact h)
  ·exact .inr (oK e h)
 ·exact .inl (by simpa using hj)
theorem AB:FnScope ["reader","level","record","field"] ["reader","level"] (B6 jE):=by walk_at"sc"
theorem Jp{C CB G0:Addr}{d:Nat}(hd:d<=20)(F:Fun K "read_record" "read_record" jE f fd)(B:Blt mg)(h_BadThing:HasN P w K mg base "BadThing" CB G0)(h_Reader_passes:Q5 P w K mg base C "passes" 1 ["self","piece"] (cI C))(h_must_pass:M6 P w K mg base "must_pass" 2 ["reader","piece"] (eV C CB))(h_read_field:M6 P w K mg base "read_field" 3 ["reader","last"] (qA C CB))(h_read_thing:M6 P w K mg base "read_thing" (2*d+6) ["reader","level"] (T5 C CB (21-(d:Nat)) (B7 d))):FnOk P w K mg base (G8 P w) (2*d+7) f fd ["reader","level"] (T5 C CB (20-(d:Nat)) (O9 (B7 d))):=by
 refine Fun.okx F AB (by walk_at"ln") (λcdv A outer s H vs Q E hr h=>?_);obtain⟨x,dx,z,p,rfl,rd,q0,q1⟩:=h;have hu:=F1 hr;have nd:=AB.nd;refine F4 (A4 (B0 (i:=2) nd rfl (Or.inl rfl) wD)
  (A4 (B9 (F8 K (W5 h_Reader_passes hr (!1) (qv 0) (A0 A5 A1)) (λ_=>rfl)) (A7 (B3 (qv 2))) C1)
  (A4 (B0 (i:=3) nd rfl (Or.inl rfl) (Q8 h_read_field Q7 hr (!1) rfl (A0 (qv 0) (A0 A5 A1))))
  (A4 (dN hu (Q8 h_read_thing Q7 hr (!1) rfl (A0 (qv 0) (A0 (A3 (B5 K) (qv 1) A2) A1))) (qv 2) (qv 3))
  (A4 (bQ xF (F8 K (W5 h_Reader_passes hr (!1) (qv 0) (A0 A5 A1)) (λ_=>rfl)) (A4 (B0 (i:=3) nd rfl (Or.inl rfl) (Q8 h_read_field Q7 hr (!1) rfl (A0 (qv 0) (A0 (qv 3) A1))))
  (A7 (dN hu (Q8 h_read_thing Q7 hr (!1) rfl (A0 (qv 0) (A0 (A3 (B5 K) (qv 1) A2) A1))) (qv 2) (qv 3)))))
  (A4 (P4 (Q8 h_must_pass Q7 hr (!1) rfl (A0 (qv 0) (A0 A5 A1))))
  (A7 (B3 (qv 2))))))))) ?_
 have elev:[V.ref x,V.int (20-(d:Int)+1)]=[V.ref x,V.int (21-(d:Int))]:=by rw[show(20:Int)-d+1=21-d by omega]
 refine λl hl=>?_
 have hxl:x≠l:=E5 rd.at_ hl;have S01:Same (F9 H x) (upd H l (.dK [])):=Ay hl;have hx1:upd H l (.dK []) x=some (.ins C dx (M4 z p)):=J9 hxl rd.at_;have hl1:upd H l (.dK []) l=some (.dK []):=A6;have D01:Dom H (upd H l (.dK [])):=V2 S01 hx1;show X2 _ _ _ _ (upd H l (.dK []));generalize upd H l (.dK [])=H1 at S01 hx1 hl1 D01 ⊢;have gx:H1 x≠none:=by rw[hx1];simp
 have gl:H1 l≠none:=by rw[hl1];simp
 have hln:=rd.ln;have hlp:=rd.pl;have rd1:RdAt C x dx z p H1:=⟨hx1,rd.pl,rd.ln,rd.asc⟩;refine⟨_,rfl,x,dx,_,rfl,hx1,rfl,x,dx,z,"}",p,rfl,hx1,rd.pl,!0,λe=>⟨_,rfl,C0 ?_⟩,λe H2 b2 hx2=>⟨_,rfl,C8 ⟨_,rfl,?_⟩⟩⟩
 ·have e1:=P8.2 (show[125].isPrefixOf (z.cps.toList.drop p)=false from e)
  have er:∀o,P6 Str.empty (z.cps.toList.drop p)=o->O9 (B7 d) (z.cps.toList.drop p)=o.bind λf=>(B7 d f.2).bind λp=>(M0 (B7 d) (p.2.length+1) f.1 p.2).map λq=>(.dic (.cons f.1 p.1 q.1),q.2):=λo ho=>by
   unfold O9;rw[e1,ho]
  refine⟨_,rfl,x,dx,z,"",p,rfl,hx1,rd.pl,rd.ln,rd.asc,!0,λh0 H2 s2=>q0 (by rw[er _ h0];rfl) H2 (J7 S01 s2),λk1 r1 h1 p2 H2 s2 hx2 hp2 hr2=>?_⟩;have er1:=er _ h1;obtain⟨hle1,hk1,hlt1⟩:=AA h1;rw[←hr2,O3 hp2,O3 rd.pl]at hle1;have rd2:RdAt C x dx z p2 H2:=rd1.but hx2 hp2;have hl2:H2 l=some (.dK []):=s2 _ _ (by rw[K8 (Ne.symm hxl)];exact hl1);have D2:Dom H1 H2:=V2 s2 hx2;refine⟨_,rfl,_,rfl,J3 ⟨x,dx,z,p2,elev,rd2,λh0 H3 s3=>q0 (by rw[er1,←hr2];show(B7 d (z.cps.toList.drop p2)).bind _=none;rw[h0];rfl) H3 (J7 S01 (J7 s2 s3)),λt3 r3 h3 v3 p3 H3 s3 rd3 hr3 rep3=>⟨_,rfl,_,rfl,?_⟩⟩⟩;have hl3:H3 l=some (.dK []):=s3 _ _ (by rw[K8 (Ne.symm hxl)];exact hl2);have hle3:=jM h3;rw[←hr3,O3 rd3.pl,O3 rd2.pl]at hle3;have h3p:=rd3.pl;have D3:Dom H2 H3:=V2 s3 rd3.at_;have er3:O9 (B7 d) (z.cps.toList.drop p)=(M0 (B7 d) (r3.length+1) k1 r3).map λq=>(.dic (.cons k1 t3 q.1),q.2):=by
   rw[er1,←hr2];show(B7 d (z.cps.toList.drop p2)).bind _=_;rw[h3];rfl
  refine mB hl3 (by show 0<sizeLine;decide) ?_;refine⟨λm σ H'=>∃(p' n:Nat)(kvs:List (B1×V))(acc:Ts)(last:Str),σ=[some (.ref x),some (.int (20-(d:Int))),some (.ref l),some (.str last)]/\Same (F9 H x) H'/\RdAt C x dx z p' H'/\H' l=some (.dK kvs)/\RepD (J1 H1 H') acc kvs/\Dom H1 H'/\kvs.length<=p'/\last.length<=100/\(∀j∈acc.keys,j=last∨C3 j last=true)/\m=z.length-p'/\(z.cps.toList.drop p').length<n/\
    O9 (B7 d) (z.cps.toList.drop p)=(M0 (B7 d) n last (z.cps.toList.drop p')).map λq=>(.dic (acc.app q.1),q.2),
   ⟨_,p3,r3.length+1,[(Sum.inr k1,v3)],.cons k1 t3 .nil,k1,rfl,jL hl (J7 S01 (J7 s2 s3)),rd3.but (J9 hxl rd3.at_) rd3.pl,A6,?_,(D2.trans D3).upd,by show 1<=p3;omega,hk1,λj hj=>.inl (by simpa [Ts.keys]using hj),rfl,by rw[hr3];omega,?_⟩,?_⟩
  ·rw[dQ gl]
   exact⟨v3,[],rfl,rep3.mono (T2 D2),rfl⟩
  ·rw[er3,hr3]
   rfl
  rintro m _ H' ⟨p',n,kvs,acc,last,rfl,sm,rd',hl',rep,D',hyl,hlast,hinv,rfl,hn,her⟩;have hlp':=rd'.pl;obtain⟨n,rfl⟩:∃k,n=k+1:=⟨n-1,!1⟩
  refine⟨_,rfl,x,dx,_,rfl,rd'.at_,rfl,x,dx,z,", ",p',rfl,rd'.at_,rd'.pl,!0,λe=>⟨_,rfl,C0 ?_⟩,λe H3 b3 hx3=>⟨_,rfl,C8 ?_⟩⟩
  ·have e2:=aP.2 (show[44,32].isPrefixOf (z.cps.toList.drop p')=false from e)
   rw[Jl e2]at her;refine⟨_,rfl,x,dx,z,"}",p',rfl,rd'.at_,rd'.pl,!0,λe3=>?_,λe3 H3 b3 hx3=>⟨_,rfl,?_⟩⟩
   ·have e4:=P8.2 (show[125].isPrefixOf (z.cps.toList.drop p')=false from e3)
    rw[e4]at her;exact q0 her _ sm
   ·have e4:=P8.1 (show[125].isPrefixOf (z.cps.toList.drop p')=true from e3)
    rw[e4]at her;refine q1 _ _ her _ _ H3 (J7 sm b3.sm) (rd'.on (y:="}") hx3 e3) (by rw[drop_drop];rfl) ?_;show Rep (J1 H H3) (.dic (acc.app .nil)) (.ref l);rw[Ts.app_nil];have hl3:H3 l=some (.dK kvs):=by rw[b3 l (Ne.symm hxl)];exact hl'
    exact⟨l,kvs,rfl,W6 hl hl3,(rep.mono (aQ gx b3.sm)).mono (T2 D01)⟩
  ·have e2:=aP.1 (show[44,32].isPrefixOf (z.cps.toList.drop p')=true from e)
   rw[Jk e2,drop_drop]at her;have rd4:=rd'.on (y:=", ") hx3 e;have hp3:p'+(", " : Str).length=p'+2:=rfl;rw[hp3]at rd4;have hl4:H3 l=some (.dK kvs):=by rw[b3 l (Ne.symm hxl)];exact hl'
   have s4:=J7 sm b3.sm;have D4:Dom H1 H3:=λb hb=>by
    by_cases eb:b=x
    ·rw[eb,hx3];simp
    ·rw[b3 b eb];exact D' b hb
   refine⟨fun σ H2=>∃m',m'<z.length-p'/\∃(p' n:Nat)(kvs:List (B1×V))(acc:Ts)(last:Str),σ=[some (.ref x),some (.int (20-(d:Int))),some (.ref l),some (.str last)]/\Same (F9 H x) H2/\RdAt C x dx z p' H2/\H2 l=some (.dK kvs)/\RepD (J1 H1 H2) acc kvs/\Dom H1 H2/\kvs.length<=p'/\last.length<=100/\(∀j∈acc.keys,j=last∨C3 j last=true)/\m'=z.length-p'/\(z.cps.toList.drop p').length<n/\
    O9 (B7 d) (z.cps.toList.drop p)=(M0 (B7 d) n last (z.cps.toList.drop p')).map λq=>(.dic (acc.app q.1),q.2),λ_ _ z=>z,?_⟩
   refine⟨_,rfl,_,rfl,x,dx,z,last,p'+2,rfl,rd4.at_,rd4.pl,rd4.ln,rd4.asc,hlast,λh0 H4 s5=>q0 (by rw[her,h0];rfl) H4 (J7 s4 s5),λk5 r5 h5 p5 H5 s5 hx5 hp5 hr5=>?_⟩;rw[h5]at her;obtain⟨hle5,hk5,hlt5⟩:=AA h5;rw[←hr5,O3 hp5,O3 rd4.pl]at hle5;have rd5:RdAt C x dx z p5 H5:=rd4.but hx5 hp5;have hl5:H5 l=some (.dK kvs):=s5 _ _ (by rw[K8 (Ne.symm hxl)];exact hl4);have D5:Dom H3 H5:=V2 s5 hx5;have her5:O9 (B7 d) (z.cps.toList.drop p)=(((B7 d (z.cps.toList.drop p5)).bind λp=>(M0 (B7 d) n k5 p.2).map λq=>(Ts.cons k5 p.1 q.1,q.2))).map λq=>(.dic (acc.app q.1),q.2):=by
    rw[her,hr5];rfl
   refine⟨_,rfl,_,rfl,J3 ⟨x,dx,z,p5,elev,rd5,λh0 H6 s6=>q0 (by rw[her5,h0];rfl) H6 (J7 s4 (J7 s5 s6)),λt6 r6 h6 v6 p6 H6 s6 rd6 hr6 rep6=>⟨_,rfl,_,rfl,?_⟩⟩⟩;have hl6:H6 l=some (.dK kvs):=s6 _ _ (by rw[K8 (Ne.symm hxl)];exact hl5);have hle6:=jM h6;rw[←hr6,O3 rd6.pl,O3 rd5.pl]at hle6;have h4p:=rd4.pl;have h6p:=rd6.pl;have D6:Dom H5 H6:=V2 s6 rd6.at_;rw[O3 rd'.pl]at hn;rw[h6]at her5;have rep5:=((rep.mono (aQ gx b3.sm)).mono (aQ gx s5)).mono (aQ gx s6);refine mB hl6 (lt_of_le_of_lt (show kvs.length<=100000 by omega) (!3)) ?_;rw[El _ (RepD.fresh rep5 (Jn hinv hlt5))];refine⟨_,?_,p6,n,kvs++[(Sum.inr k5,v6)],acc.snoc k5 t6,k5,rfl,jL hl (J7 s4 (J7 s5 s6)),rd6.but (J9 hxl rd6.at_) rd6.pl,A6,?_,(D4.trans (D5.trans D6)).upd,by rw[length_append];show kvs.length+1<=p6;omega,hk5,Jo hinv hlt5,rfl,by rw[O3 rd6.pl];omega,?_⟩
   ·omega
   ·rw[dQ gl]
    exact RepD.snoc (rep6.mono (T2 (D4.trans D5))) rep5
   ·rw[her5,←hr6]
    show((M0 (B7 d) n k5 (z.cps.toList.drop p6)).map _).map _=_;rw[Option.map_map]
    congr 1
    funext q
    show _=(Th.dic ((acc.snoc k5 t6).app q.1),q.2);rw[Ts.snoc_app];rfl
 ·have e1:=P8.1 (show[125].isPrefixOf (z.cps.toList.drop p)=true from e)
  have er:O9 (B7 d) (z.cps.toList.drop p)=some (.dic .nil,(z.cps.toList.drop p).drop 1):=by
   unfold O9;rw[e1]
  refine q1 _ _ er _ _ H2 (J7 S01 b2.sm) (RdAt.on (H:=H1) (y:="}") rd1 hx2 e) (by rw[drop_drop];rfl) ⟨l,[],rfl,W6 hl ?_,rfl⟩;rw[b2 l (Ne.symm hxl)];exact hl1
theorem qB:FnScope ["reader","level"] ["reader","level"] (B6 eQ):=by walk_at"sc"
theorem Jq{C CB G0:Addr}(F:Fun K "read_thing" "read_thing" eQ f fd)(G:Glo mg)(h_BadThing:HasN P w K mg base "BadThing" CB G0):FnOk P w K mg base (G8 P w) 6 f fd ["reader","level"] (T5 C CB (21-(0:Nat)) (B7 0)):=by
 refine Fun.okx F qB (by walk_at"ln") (λcdv A outer s H vs Q E hr h=>?_);obtain⟨x,dx,z,p,rfl,rd,q0,q1⟩:=h;refine F4 (A4 (B9 (D0 bS (qv 1) (dW rfl G.DEEPEST) rfl) (A7 (Y6 h_BadThing hr rfl (A0 A5 A1))) C1) Gv) ?_;exact⟨_,rfl,_,_,rfl,rfl,_,rfl,F2 (!3) ⟨!3,q0 rfl H (Je (Same.refl H))⟩⟩
theorem Jr{C CB G0:Addr}{d:Nat}(hd:d<=19)(F:Fun K "read_thing" "read_thing" eQ f fd)(B:Blt mg)(G:Glo mg)(h_BadThing:HasN P w K mg base "BadThing" CB G0)(h_Reader_passes:Q5 P w K mg base C "passes" 1 ["self","piece"] (cI C))(h_read_row:M6 P w K mg base "read_row" (2*d+7) ["reader","level"] (T5 C CB (20-(d:Nat)) (R1 (B7 d))))(h_read_record:M6 P w K mg base "read_record" (2*d+7) ["reader","level"] (T5 C CB (20-(d:Nat)) (O9 (B7 d))))(h_read_atom:M6 P w K mg base "read_atom" 2 ["reader"] (pZ C CB)):
  FnOk P w K mg base (G8 P w) (2*(d+1)+6) f fd ["reader","level"] (T5 C CB (21-((d+1:Nat):Int)) (B7 (d+1))):=by
 refine Fun.okx (k:=2*d+7) F qB (by walk_at"ln") (λcdv A outer s H vs Q E hr h=>?_);obtain⟨x,dx,z,p,rfl,rd,q0,q1⟩:=h;have hu:=F1 hr;have nd:=qB.nd;have elev:[V.ref x,V.int (21-((d+1:Nat):Int))]=[V.ref x,V.int (20-(d:Int))]:=by rw[show(21:Int)-((d+1:Nat):Int)=20-d by omega]
 refine F4 (A4 (B9 (D0 bS (qv 1) (dW rfl G.DEEPEST) rfl) (A7 (Y6 h_BadThing hr rfl (A0 A5 A1))) C1)
  (A4 (B9 (F8 K (W5 h_Reader_passes hr (!1) (qv 0) (A0 A5 A1)) (λ_=>rfl)) (A7 (B3 (Q8 h_read_row Q7 hr (!1) rfl (A0 (qv 0) (A0 (qv 1) A1))))) C1)
  (A4 (B9 (F8 K (W5 h_Reader_passes hr (!1) (qv 0) (A0 A5 A1)) (λ_=>rfl)) (A7 (B3 (Q8 h_read_record Q7 hr (!1) rfl (A0 (qv 0) (A0 (qv 1) A1))))) C1)
  (A7 (B3 (Q8 h_read_atom Q7 hr (!1) rfl (A0 (qv 0) A1))))))) ?_
 refine⟨_,rfl,_,_,rfl,rfl,_,rfl,G3 (decide_eq_false (!1)) ?_⟩;refine⟨_,rfl,x,dx,_,rfl,rd.at_,rfl,x,dx,z,"[",p,rfl,rd.at_,rd.pl,!0,λe=>⟨_,rfl,C0 ?_⟩,λe H2 b2 hx2=>⟨_,rfl,C8 ?_⟩⟩
 ·have e1:=P8.2 (show[91].isPrefixOf (z.cps.toList.drop p)=false from e)
  refine⟨_,rfl,x,dx,_,rfl,rd.at_,rfl,x,dx,z,"{",p,rfl,rd.at_,rd.pl,!0,λe'=>⟨_,rfl,C0 ?_⟩,λe' H2 b2 hx2=>⟨_,rfl,C8 ?_⟩⟩
  ·have e2:=P8.2 (show[123].isPrefixOf (z.cps.toList.drop p)=false from e')
   have er:B7 (d+1) (z.cps.toList.drop p)=U9 (z.cps.toList.drop p):=by rw[B7,e1,e2]
   exact⟨_,rfl,x,dx,z,p,rfl,rd.at_,rd.pl,rd.ln,rd.asc,λh0 H' s'=>q0 (er.trans h0) H' s',λt r h v p' H' s' hx' hp' hr' rep=>q1 t r (er.trans h) v p' H' s' (rd.but hx' hp') hr' (rep _)⟩
  ·have e2:=P8.1 (show[123].isPrefixOf (z.cps.toList.drop p)=true from e')
   have rd2:=rd.on (y:="{") hx2 e';have er:B7 (d+1) (z.cps.toList.drop p)=O9 (B7 d) (z.cps.toList.drop (p+1)):=by rw[B7,e1,e2,drop_drop]
   have hp1:p+("{" : Str).length=p+1:=rfl;rw[hp1]at rd2;refine⟨_,rfl,_,rfl,x,dx,z,p+1,elev,rd2,λh0 H' s'=>q0 (er.trans h0) H' (J7 b2.sm s'),λt r h v p' H' s' rd' hr' rep=>q1 t r (er.trans h) v p' H' (J7 b2.sm s') rd' hr' (rep.mono (T2 ?_))⟩;exact V2 b2.sm hx2
 ·have e2:=P8.1 (show[91].isPrefixOf (z.cps.toList.drop p)=true from e)
  have rd2:=rd.on (y:="[") hx2 e;have er:B7 (d+1) (z.cps.toList.drop p)=R1 (B7 d) (z.cps.toList.drop (p+1)):=by rw[B7,e2,drop_drop]
  have hp1:p+("[" : Str).length=p+1:=rfl;rw[hp1]at rd2;refine⟨_,rfl,_,rfl,x,dx,z,p+1,elev,rd2,λh0 H' s'=>q0 (er.trans h0) H' (J7 b2.sm s'),λt r h v p' H' s' rd' hr' rep=>q1 t r (er.trans h) v p' H' (J7 b2.sm s') rd' hr' (rep.mono (T2 ?_))⟩;exact V2 b2.sm hx2
end
end K04
namespace K04
open PySem L2 Rg
section
variable{P:Program}{w:World}{K:Frag}{mg:Str->Option Value}{base:Heap}{f:Addr}{fd:FuncData}
section
variable{g:Addr}{gd:FuncData}
theorem jN{x:Str}(h:C7 x=true):x.length<=1000:=by
 unfold C7 at h;simp only[Bool.and_eq_true,decide_eq_true_eq]at h;omega
theorem Js:FnScope ["word"] ["word"] (B6 pB):=by walk_at"sc"
theorem Jt(F:Fun K "word_key" "word_key" pB f fd)(B:Blt mg):FnOk P w K mg base C6 1 f fd ["word"] X3:=by
 refine F.ok Js (by walk_at"ln") (λcdv A outer s H vs Q E hr h=>?_);obtain⟨x,rfl,hx,q⟩:=h;refine⟨_,Z6 (Z7 (cU (L0 (aZ kP rfl B.len boot_len (L0 (pv 0) P2)) (L0 (pv 0) P2)))),?_⟩;exact⟨_,rfl,_,_,rfl,⟨G7 hx,rfl⟩,_,rfl,(by show 2<=sizeLine;decide),λp hp=>q p hp⟩
def AC:Sp:=λvs H Q _=>∃(a:Addr)(kvs:List (B1×V))(xs:List Str),vs=[.ref a]/\H a=some (.dK kvs)/\kvs.length<64/\kvs.map (·.1)=xs.map Sum.inr/\(∀x∈xs,x.length<=1000)/\∀(r:Addr)(H1:Hp),Same H H1->H1 r=some (.lst ((L5 xs).map V.str))->Q (.ref r) H1
theorem Ju:FnScope ["holder"] ["holder"] (B6 pC):=by walk_at"sc"
theorem Jv(F:Fun K "keys_of" "keys_of" pC f fd)(B:Blt mg)(G:FnOk P w K mg base C6 1 g gd ["word"] X3)(bG:Binds K gd ["word"] [])(mG:mg "word_key"=some (.ref g)):FnOk P w K mg base C6 4 f fd ["holder"] AC:=by
 refine F.ok Ju (by walk_at"ln") (λcdv A outer s H vs Q E hr h=>?_);obtain⟨a,kvs,xs,rfl,ha,hl,hk,hx,q⟩:=h;refine⟨_,fN (fO (kA (aZ gQ rfl B.isi boot_isinstance (L0 (pv 0) (L0 (fJ (v:=.ty "list") rfl B.list PyProof.Rows.boot_list rfl) P2)))) rJ fM)
  (Z6 (Z7 (uX (GP (sp:=X3) rfl (λ_ _ z=>z) G hr bG) rfl B.sorted PyProof.Rows.boot_sorted (L0 (pv 0) P2) (sW (qX (v:=.ref g) rfl mG rfl) sV)))),?_⟩
 refine⟨_,rfl,.ref a,"list",_,_,rfl,.dK ha,vC K,_,rfl,C0 ?_⟩;exact⟨_,rfl,a,kvs,rfl,rfl,ha,λ_ _ _ _ _ z=>z,hl,xs,hk,hx,λr H1 sm e=>q r H1 sm e⟩
def qC:Sp:=λvs H Q _=>∃(H0:Hp)(t:Th)(v:V),vs=[v]/\Same H0 H/\Rep H0 t v/\t.Rd/\t.size<=100000/\
 ∀(r:Addr)(H':Hp)(ts:List V),Same H H'->H' r=some (.lst ts)->PartsN H0 H' ts (F6 t)->Q (.ref r) H'
theorem Jw:FnScope ["thing"] ["thing"] (B6 eO):=by walk_at"sc"
theorem Jx(F:Fun K "parts_of" "parts_of" eO f fd)(B:Blt mg)(G:FnOk P w K mg base C6 4 g gd ["holder"] AC)(bG:Binds K gd ["holder"] [])(kG:keepIn K (.ref g)=true)(mG:mg "keys_of"=some (.ref g)):
  FnOk P w K mg base C6 5 f fd ["thing"] qC:=by
 refine F.ok Jw (by walk_at"ln") (λcdv A outer s H vs Q E hr h=>?_);obtain⟨H0,t,v,rfl,smE,rep0,ok,hsz,q⟩:=h;have rep:=rep0.mono smE;have hu:=F1 hr;refine⟨_,fN (fO (kA (aZ gQ rfl B.isi boot_isinstance (L0 (pv 0) (L0 (fJ (v:=.ty "list") rfl B.list PyProof.Rows.boot_list rfl) P2)))) (Z6 (Z7 (zL (fr:=[]) rfl (kH (pv 0)) (LcSt.ok (sc:=B6 eO) (N:=["thing"]) ⟨!0,rfl,!0,rfl,!0,!0,!0⟩ rfl rfl) λfp C s H=>cU (L0 qW (L0 (pv 0) P2))))) fM)
  (fN (fO (kA (aZ gQ rfl B.isi boot_isinstance (L0 (pv 0) (L0 (fJ (v:=.ty "dict") rfl B.dict PyProof.Rows.boot_dict rfl) P2)))) (Z6 (Z7 (zL (fr:=[("thing",0)]) rfl
   (kH (kW G hr rfl mG kG bG .nil bD (L0 (pv 0) P2)))
   (LcSt.ok (sc:=B6 eO) (N:=["thing"]) ⟨!0,rfl,!0,rfl,!0,!0,!0⟩ rfl rfl) λfp C s H=>cU (L0 (pv 0) (L0 (Eu hu (pv 1) (pv 0) (λ_ _=>rfl)) P2))))) fM)
  (Z6 (Z7 (sT P2)))),?_⟩
 refine⟨_,rfl,v,"list",_,_,rfl,rep.ty,vD _ t,_,rfl,?_⟩;cases t with
 |num i=>
  refine C0 ⟨_,rfl,v,"dict",_,_,rfl,rep.ty,aD _ _,_,rfl,C0 ⟨zero_le _,λr hr'=>?_⟩⟩;exact q r _ [] (B2 hr' _) A6 .nil
 |word x=>
  refine C0 ⟨_,rfl,v,"dict",_,_,rfl,rep.ty,aD _ _,_,rfl,C0 ⟨zero_le _,λr hr'=>?_⟩⟩;exact q r _ [] (B2 hr' _) A6 .nil
 |row l=>
  obtain⟨a,xs,rfl,h20,h3⟩:=(rep0:∃a xs,v=V.ref a/\H0 a=some (.lst xs)/\RepR H0 l xs);have h2:=smE _ _ h20;have hl9:l.len+1<=100000:=le_trans (succ_le_succ (zK l)) hsz;have hxl:xs.length=l.len:=h3.len;have hkl:(F6 (.row l)).length=l.len:=by show(l.toL.map _).length=_;rw[length_map,vT]
  refine C8 ⟨_,rfl,a,rfl,⟨xs,SqL.of h2⟩,uZ (xs:=xs) (λi ys H'=>Same H H'/\PartsN H0 H' ys ((F6 (.row l)).take i)/\ys.length=i) (le_of_lt (E8 _ (!1))) ⟨Same.refl H,.nil,rfl⟩ (λi ys H' hi p=>⟨SqL.of (p.1 _ _ h2),p.2.2⟩) (λi x ys H' hx p=>?_) (λys H' p r hr'=>?_)⟩
  ·obtain⟨sm,pa,hy⟩:=p
   obtain⟨c,hc,rc⟩:=h3.at i x hx;refine⟨x,rfl,(by show 2<=sizeLine;decide),λp hp=>?_⟩;have sm2:Same H' (upd H' p (.tup [.str "",x])):=B2 hp _;refine⟨sm.trans sm2,?_,by rw[length_append,hy];rfl⟩;have hk:(F6 (.row l))[i]?=some (Str.empty,c):=by
    show(l.toL.map λp=>(Str.empty,p.2))[i]?=_;rw[←mP,getElem?_map]at hc;rw[getElem?_map];cases e:l.toL[i]? with
    |none=>rw[e]at hc;cases hc
    |some z=>rw[e]at hc;cases hc;rfl
   rw[take_succ,hk];exact PartsN.app (pa.mono (bI sm2)) (.cons ⟨p,x,rfl,A6,rc⟩ .nil)
  ·obtain⟨sm,pa,hy⟩:=p
   rw[take_of_length_le (!1)]at pa;have sm2:=B2 hr' (.lst ys);exact q r _ ys (sm.trans sm2) A6 (pa.mono (bI sm2))
 |dic l=>
  obtain⟨a,kvs,rfl,h20,h3⟩:=(rep0:∃a kvs,v=V.ref a/\H0 a=some (.dK kvs)/\RepD H0 l kvs);have h2:=smE _ _ h20;have hl9:l.len<=63:=ok.f63.1;obtain⟨okl,hnd,_⟩:=oM (show l.WfD Str.empty from ok.wf);have hkl:=Ts.keys_len l;refine C0 ⟨_,rfl,.ref a,"dict",_,_,rfl,rep.ty,aD _ _,_,rfl,C8 ⟨_,rfl,a,kvs,l.keys,rfl,h2,by rw[h3.len];omega,h3.keys,λx hx=>jN (okl x hx).2,λr0 H1 sm0 e0=>?_⟩⟩;have pm:=gT l.keys;have hyl:(L5 l.keys).length=l.len:=by rw[pm.length_eq,hkl]
  refine⟨r0,rfl,⟨_,SqL.of e0⟩,uZ (xs:=(L5 l.keys).map V.str) (λi zs H'=>Same H1 H'/\PartsN H0 H' zs (((L5 l.keys).take i).map λk=>(k,l.fld k))/\zs.length=i) (G7 (by rw[length_map];omega)) ⟨Same.refl H1,.nil,rfl⟩ (λi ys H' hi p=>⟨SqL.of (p.1 _ _ e0),p.2.2⟩) (λi x zs H' hx p=>?_) (λzs H' p r hr'=>?_)⟩
  ·obtain⟨sm,pa,hy⟩:=p
   rw[getElem?_map]at hx;cases ek:(L5 l.keys)[i]? with
   |none=>rw[ek]at hx;cases hx
   |some k=>
    rw[ek]at hx;cases hx;have hc:=lW l (pm.mem_iff.mp (mem_of_getElem? ek));obtain⟨y,hy2,ry⟩:=h3.val hc;have hd:=DGet.k (k:=Sum.inr k) (sm _ _ (sm0 _ _ h2));rw[hy2]at hd;refine⟨_,rfl,_,rfl,_,rfl,a,y,rfl,hd,(by show 2<=sizeLine;decide),λp hp=>?_⟩;have sm2:Same H' (upd H' p (.tup [.str k,y])):=B2 hp _;refine⟨sm.trans sm2,?_,by rw[length_append,hy];rfl⟩;rw[take_succ,ek,map_append];exact PartsN.app (pa.mono (bI sm2)) (.cons ⟨p,y,rfl,A6,ry⟩ .nil)
  ·obtain⟨sm,pa,hy⟩:=p
   rw[take_of_length_le (by rw[length_map];exact le_refl _)]at pa;have sm2:=B2 hr' (.lst zs);exact q r _ zs ((sm0.trans sm).trans sm2) A6 (pa.mono (bI sm2))
end
def AD:Sp:=λvs H Q _=>∃(t:Th)(v:V),vs=[v]/\Rep H t v/\t.Rd/\t.size<=100000/\∀(r:Addr)(H':Hp)(fs:List V),Same H H'->H' r=some (.lst fs)->fs.length=t.size->Q (.ref r) H'
def K2(cs:List (Str×Th)):Nat:=(cs.map λp=>p.2.size).sum
theorem qD(cs ds:List (Str×Th)):K2 (cs++ds)=K2 cs+K2 ds:=by unfold K2;rw[map_append,List.sum_append]
theorem AE(cs:List (Str×Th)):K2 cs.reverse=K2 cs:=by unfold K2;rw[List.map_reverse];exact(List.reverse_perm _).sum_nat
theorem eW:∀cs:List (Str×Th),cs.length<=K2 cs
 |[]=>zero_le _
 |c::cs=>by
  have:=eW cs;have:=vS c.2;show cs.length+1<=c.2.size+K2 cs;omega
theorem AF:FnScope ["thing","found","waiting","part"] ["thing"] (B6 pD):=by walk_at"sc"
theorem Jy(F:Fun K "walked" "walked" pD f fd)(B:Blt mg)(h_parts_of:D8 P w K mg base "parts_of" 5 ["thing"] qC):FnOk P w K mg base C6 6 f fd ["thing"] AD:=by
 refine F.ok AF (by walk_at"ln") (λcdv A outer s H vs Q E hr h=>?_);obtain⟨t,v,rfl,rep,ok,hz,q⟩:=h;have hu:=F1 hr;have nd:=AF.nd;refine F4 (A4 (B0 (i:=1) nd rfl (Or.inl rfl) (G4 A1))
  (A4 (B0 (i:=2) nd rfl (Or.inl rfl) (G4 (A0 (bO (A0 A5 (A0 (qv 0) A1))) A1)))
  (A4 (bQ PassesOwn.never (F8 K (qv 2) (λ_=>rfl)) (A4 (B0 (i:=3) nd rfl (Or.inl rfl) (wE K PySem.F.plainAttrs_list PySem.F.slot_list_pop PySem.F.type_list_pop wM (qv 2)))
  (A4 (P4 (K4 K PySem.F.plainAttrs_list PySem.F.slot_list_append PySem.F.type_list_append W4 (qv 1) (A0 (qv 3) A1)))
  (A7 (P4 (K4 K PySem.F.plainAttrs_list PySem.F.slot_list_extend PySem.F.type_list_extend wN (qv 2) (A0 (wP rfl K rfl B.list rfl B.rev (D9 h_parts_of hr (!3) rfl (A0 (E4 K hu (qv 3) A2 (λ_ _=>rfl)) A1))) A1)))))))
  (A7 (B3 (qv 1)))))) ?_
 refine⟨zero_le _,λfo hfo=>?_⟩;refine⟨_,rfl,(by show 2<=sizeLine;decide),λp0 hp0=>⟨(by show 1<=sizeLine;decide),λwt hwt=>?_⟩⟩;obtain⟨n1,hp0'⟩:=mQ hp0;obtain⟨n2,hwt'⟩:=mQ hwt;obtain⟨n3,hwt''⟩:=mQ hwt';refine⟨λm σ' H'=>∃(p3:Option V)(ws fs:List V)(cs:List (Str×Th)),σ'=[some v,some (.ref fo),some (.ref wt),p3]/\Same H H'/\H' fo=some (.lst fs)/\H' wt=some (.lst ws)/\PartsN H H' ws cs/\(∀c∈cs,c.2.Rd)/\m=K2 cs/\fs.length+K2 cs=t.size,
  ⟨_,none,[.ref p0],[],[(Str.empty,t)],rfl,aI (aI (aI (Same.refl H) hfo) hp0') hwt'',by rw[B4 (Ne.symm n3),B4 (Ne.symm n1),A6],A6,.cons ⟨p0,v,rfl,by rw[B4 (Ne.symm n2),A6];rfl,rep⟩ .nil,λc hc=>by rw[mem_singleton.mp hc];exact ok,rfl,by show 0+(t.size+0)=_;omega⟩,λm σ' H' hw=>?_⟩
 obtain⟨p3,ws,fs,cs,rfl,sm,hF,hW,pa,okc,rfl,hsum⟩:=hw;have hcl:=eW cs;refine⟨.ref wt,rfl,!ws.isEmpty,.inl ⟨ws,SqL.of hW,rfl⟩,?_⟩;by_cases hne:ws=[]
 ·subst hne
  have ecs:cs=[]:=List.eq_nil_of_length_eq_zero pa.len.symm;subst ecs;exact C0 ⟨_,rfl,q fo H' fs sm hF (by have:fs.length+0=t.size:=hsum;omega)⟩
 ·obtain⟨wr,x,cr,c,rfl,rfl,par,p,y,rfl,hp,rc⟩:=lS pa hne
  have ebool:(!(wr++[V.ref p]).isEmpty)=true:=by simp
  rw[ebool];have par':PartsN H H' wr cr:=par;have hlr:wr.length=cr.length:=PartsN.len par';have hcs:K2 (cr++[c])=K2 cr+c.2.size:=by rw[qD];show K2 cr+(c.2.size+0)=_;rw[Nat.add_zero]
  have okc2:=okc c (!2);have hk:=oR okc2;have hkl:=eW (F6 c.2);refine C8 ⟨fun σ2 H2=>∃m',m'<K2 (cr++[c])/\∃(p3:Option V)(ws fs:List V)(cs:List (Str×Th)),σ2=[some v,some (.ref fo),some (.ref wt),p3]/\Same H H2/\H2 fo=some (.lst fs)/\H2 wt=some (.lst ws)/\PartsN H H2 ws cs/\(∀c∈cs,c.2.Rd)/\m'=K2 cs/\fs.length+K2 cs=t.size,λ_ _ z=>z,?_⟩;refine⟨.ref wt,rfl,.inl ⟨rfl,_,SqL.of hW⟩,wt,_,.ref p,rfl,rfl,hW,!2,?_⟩;rw[dropLast_concat];have hF1:upd H' wt (.lst wr) fo=some (.lst fs):=by rw[B4 (Ne.symm n3)];exact hF
  have t1:TupsStay H' (upd H' wt (.lst wr)):=TupsStay.lst hW;refine⟨.ref fo,rfl,.inl ⟨rfl,_,SqL.of hF1⟩,.ref p,rfl,fo,fs,.ref p,rfl,rfl,hF1,E8 _ (!1),?_⟩;have t2:TupsStay (upd H' wt (.lst wr)) (upd (upd H' wt (.lst wr)) fo (.lst (fs++[.ref p]))):=TupsStay.lst hF1;have hW2:upd (upd H' wt (.lst wr)) fo (.lst (fs++[.ref p])) wt=some (.lst wr):=by rw[B4 n3,A6]
  have sm2:Same H (upd (upd H' wt (.lst wr)) fo (.lst (fs++[.ref p]))):=aI (aI sm hwt'') hfo;have hF2:upd (upd H' wt (.lst wr)) fo (.lst (fs++[.ref p])) fo=some (.lst (fs++[.ref p])):=A6;refine⟨.ref wt,rfl,.inl ⟨rfl,_,SqL.of hW2⟩,.ref p,rfl,dL (i:=1) (t2 _ _ (t1 _ _ hp)) rfl ⟨H,c.2,y,rfl,sm2,rc,okc2,!1,λr H3 ts sm3 hr3 pa3=>?_⟩⟩;refine⟨r,ts,rfl,SqL.of hr3,λr2 hr2=>?_⟩;have hr2w:wt≠r2:=E5 (sm3 _ _ hW2) hr2;have hr2f:fo≠r2:=E5 (sm3 _ _ hF2) hr2;have hW3:upd H3 r2 (.lst ts.reverse) wt=some (.lst wr):=by rw[B4 hr2w];exact sm3 _ _ hW2
  have hH2:H r2=none:=(sm2.trans sm3).free hr2;have htl:=pa3.len;refine⟨wt,r2,wr,ts.reverse,rfl,rfl,hW3,A6,?_,?_⟩
  ·rw[length_reverse]
   exact le_of_lt (E8 _ (by have hk2:c.2.size=1+K2 (F6 c.2):=hk;have:=eW cr;rw[hcs]at hsum;omega))
  ·have t3:TupsStay H3 (upd (upd H3 r2 (.lst ts.reverse)) wt (.lst (wr++ts.reverse))):=(bI (B2 hr2 _)).trans (TupsStay.lst hW3)
   have tA:=((t1.trans t2).trans (bI sm3)).trans t3;have hk':c.2.size=1+K2 (F6 c.2):=hk;refine⟨_,?_,some (.ref p),wr++ts.reverse,fs++[.ref p],cr++(F6 c.2).reverse,rfl,aI (aI (sm2.trans sm3) hH2) hwt'',?_,A6,PartsN.app (PartsN.mono tA par') (PartsN.mono t3 (PartsN.rev pa3)),λd hd=>?_,rfl,?_⟩
   ·rw[qD,AE,hcs];omega
   ·rw[B4 (Ne.symm n3),B4 hr2f]
    exact sm3 _ _ hF2
   ·rcases mem_append.mp hd with hd|hd
    ·exact okc d (mem_append_left _ hd)
    ·exact oQ okc2 d (List.mem_reverse.mp hd)
   ·rw[length_append,qD,AE]
    rw[hcs]at hsum;show fs.length+1+_=_;omega
def AG:Sp:=λvs H Q _=>∃(t:Th)(v:V),vs=[v]/\Rep H t v/\t.Rd/\t.size<=100000/\∀H',Same H H'->Q (.int (t.size:Nat)) H'
theorem Jz:FnScope ["thing"] ["thing"] (B6 pE):=by walk_at"sc"
theorem JA(F:Fun K "size_of" "size_of" pE f fd)(B:Blt mg)(h_walked:D8 P w K mg base "walked" 6 ["thing"] AD):FnOk P w K mg base C6 7 f fd ["thing"] AG:=by
 refine F.ok Jz (by walk_at"ln") (λcdv A outer s H vs Q E hr h=>?_);obtain⟨t,v,rfl,rep,ok,hz,q⟩:=h;have hu:=F1 hr;refine F4 (A7 (B3 (E7 (L8 K) rfl B.len boot_len (A0 (D9 h_walked hr (!3) rfl (A0 (qv 0) A1)) A1)))) ?_;refine⟨_,rfl,t,v,rfl,rep,ok,hz,λr H' fs sm hr' hl=>bL (SqL.of hr') ?_⟩;rw[hl];exact q H' sm
end
end K04
namespace K04
open PySem L2 Rg
section
variable{P:Program}{w:World}{K:Frag}{mg:Str->Option Value}{base:Heap}{f:Addr}{fd:FuncData}
abbrev Its(H:Hp):List V->List Th->Prop:=Paired λv c=>Rep H c v
theorem Its.app{H:Hp}:∀{vs ws:List V}{cs ds:List Th},Its H vs cs->Its H ws ds->Its H (vs++ws) (cs++ds)
 |_,_,_,_,.nil,h=>h
 |_,_,_,_,.cons r t,h=>.cons r (Its.app t h)
theorem Its.rev{H:Hp}{vs:List V}{cs:List Th}(h:Its H vs cs):Its H vs.reverse cs.reverse:=by
 induction h with
 |nil=>exact .nil
 |cons r _ ih=>
  rw[reverse_cons,reverse_cons];exact Its.app ih (.cons r .nil)
theorem Its.empty{H:Hp}{vs:List V}{cs:List Th}(h:Its H vs cs):vs.isEmpty=cs.isEmpty:=by cases h<;>rfl
def AH:Sp:=λvs H Q _=>∃(H0:Hp)(t:Th)(v:V),vs=[v]/\Same H0 H/\Rep H0 t v/\t.Rd/\t.size<=1000/\((∃l,t=.row l)∨∃l,t=.dic l)/\
 ∀(r:Addr)(H':Hp)(xs:List V),Same H H'->H' r=some (.lst xs)->Its H0 xs (T3 t)->Q (.ref r) H'
theorem JB{t:Th}(h:t.Rd):(F6 t).length+1<=t.size:=by
 have h1:=eW (F6 t);have h2:t.size=1+K2 (F6 t):=oR h;omega
theorem AI:FnScope ["holder","has_fields","pieces","field","thing"] ["holder"] (B6 pG):=by walk_at"sc"
theorem JC(F:Fun K "spread" "spread" pG f fd)(B:Blt mg)(h_parts_of:D8 P w K mg base "parts_of" 5 ["thing"] qC):FnOk P w K mg base C6 6 f fd ["holder"] AH:=by
 refine F.ok AI (by walk_at"ln") (λcdv A outer s H vs Q E hr h=>?_);obtain⟨H0,t,v,rfl,smE,rep0,ok,hsz,hh,q⟩:=h;have rep:=rep0.mono smE;have hu:=F1 hr;have nd:=AI.nd;have hkl:=JB ok;have wd:∀x:Str,Its H0 [.str x] [.word x]:=λx=>.cons (show Rep H0 (.word x) (.str x)from rfl) .nil
 refine F4 (A4 (B0 (i:=1) nd rfl (Or.inl rfl) (E7 (dO K) rfl B.isi boot_isinstance (A0 (qv 0) (A0 (bN (v:=.ty "dict") rfl B.dict PyProof.Rows.boot_dict rfl) A1))))
  (A4 (B0 (i:=2) nd rfl (Or.inl rfl) (G4 A1))
  (A4 (iA PassesOwn.never rfl (hX K (D9 h_parts_of hr (!3) rfl (A0 (qv 0) A1))) (wG K rfl (hZ (bP (i:=3) nd rfl (Or.inl rfl)) (hZ (bP (i:=4) nd rfl (Or.inl rfl)) wF))) (X9 (B9 (F8 K (qv 2) (λ_=>rfl)) (A7 (P4 (K4 K PySem.F.plainAttrs_list PySem.F.slot_list_append PySem.F.type_list_append W4 (qv 2) (A0 A5 A1)))) C1)
  (X9 (B9 (F8 K (qv 1) (λ_=>rfl)) (A7 (P4 (K4 K PySem.F.plainAttrs_list PySem.F.slot_list_append PySem.F.type_list_append W4 (qv 2) (A0 (A3 (B5 K) (qv 3) A5) A1)))) C1)
  (A7 (P4 (K4 K PySem.F.plainAttrs_list PySem.F.slot_list_append PySem.F.type_list_append W4 (qv 2) (A0 (qv 4) A1)))))))
  (A4 (B9 (F8 K (qv 1) (λ_=>rfl)) (A7 (B3 (A3 (B5 K) (A3 (B5 K) (G4 (A0 A5 A1)) (qv 2)) (G4 (A0 A5 A1))))) C1)
  (A7 (B3 (A3 (B5 K) (A3 (B5 K) (G4 (A0 A5 A1)) (qv 2)) (G4 (A0 A5 A1))))))))) ?_
 refine⟨_,rfl,W1 rep.ty (aD _ t) ⟨zero_le _,λpl hpl=>?_⟩⟩;have s1:=B2 hpl (.lst []);have hp1:upd H pl (.lst []) pl=some (.lst []):=A6;show X2 _ _ _ _ (upd H pl (.lst []));generalize upd H pl (.lst [])=H1 at s1 hp1 ⊢;refine⟨_,rfl,H0,t,v,rfl,smE.trans s1,rep0,ok,!1,λr H2 ts s2 hr2 pa=>?_⟩;have hp2:=s2 _ _ hp1;have hrp:∀i,i<ts.length->r≠pl:=λi hi e=>by
  rw[e,hp2]at hr2;cases hr2;cases hi
 refine⟨r,rfl,⟨_,SqL.of hr2⟩,gU (gX (xs:=ts)) (λi σ H'=>∃(x3 x4:Option V)(xs:List V),σ=[some v,some (.bl (Q2 t)),some (.ref pl),x3,x4]/\Same H H'/\TupsStay H2 H'/\H' r=some (.lst ts)/\H' pl=some (.lst xs)/\Its H0 xs (G2 (Q2 t) ((F6 t).take i) true)/\xs.length<=3*i)
  ⟨_,_,[],rfl,s1.trans s2,λ_ _ z=>z,hr2,hp2,.nil,zero_le _⟩ (λi σ H' hi p=>?_) (λi x σ H' H3 hi p y=>?_) (fun σ H' p=>?_)⟩
 ·obtain⟨_,_,_,_,_,_,hr',_⟩:=p
  exact SqL.of hr'
 ·obtain⟨x3,x4,xs,rfl,sm,tst,hr',hp',its,hxl⟩:=p
  obtain⟨rfl,hx⟩:=y;have hrp:=hrp i hi;obtain⟨c,hc,p0,y0,rfl,hp0,rc⟩:=mU pa i x hx;have htl:=pa.len;refine⟨p0,_,rfl,SqT.of (tst _ _ hp0),rfl,_,_,rfl,_,_,rfl,rfl,?_⟩;have step:∀{H4:Hp}{ys:List V}{z:V}{Q':Hp->Prop},Same H H4->TupsStay H2 H4->H4 r=some (.lst ts)->H4 pl=some (.lst ys)->ys.length<100000->
    (Same H (upd H4 pl (.lst (ys++[z])))->TupsStay H2 (upd H4 pl (.lst (ys++[z])))->upd H4 pl (.lst (ys++[z])) r=some (.lst ts)->upd H4 pl (.lst (ys++[z])) pl=some (.lst (ys++[z]))->Q' (upd H4 pl (.lst (ys++[z]))))->gB (.ref pl) [z] H4 (λ_ H5=>Q' H5):=λh1 h2 h3 h4 h5 k=>
   ⟨pl,_,_,rfl,rfl,h4,E8 _ (!1),k (h1.put hpl) (h2.trans (TupsStay.lst h4)) (J9 hrp h3) A6⟩
  refine⟨fun σ H4=>∃ys:List V,σ=[some v,some (.bl (Q2 t)),some (.ref pl),some (.str c.1),some y0]/\Same H H4/\TupsStay H2 H4/\H4 r=some (.lst ts)/\H4 pl=some (.lst ys)/\Its H0 ys (G2 (Q2 t) ((F6 t).take i) true++(if(true&&((F6 t).take i).isEmpty)=true then[]else[.word ", "]))/\ys.length<=3*i+1,?_,?_⟩
  ·refine⟨_,rfl,!xs.isEmpty,.inl ⟨xs,SqL.of hp',rfl⟩,?_⟩
   rw[its.empty,Ii];cases he:((F6 t).take i).isEmpty with
   |true=>
    refine C0 ⟨xs,rfl,sm,tst,hr',hp',?_,!1⟩;show Its H0 xs (G2 (Q2 t) ((F6 t).take i) true++[]);rw[append_nil];exact its
   |false=>
    refine C8 ⟨_,rfl,.inl ⟨rfl,_,SqL.of hp'⟩,step sm tst hr' hp' (!1) λa1 a2 a3 a4=>⟨_,rfl,a1,a2,a3,a4,?_,by rw[length_append];show xs.length+1<=_;omega⟩⟩;exact Its.app its (wd ", ")
  ·rintro _ H4 ⟨ys,rfl,sm4,tst4,hr4,hp4,its4,hl4⟩
   refine⟨fun σ H4=>∃ys:List V,σ=[some v,some (.bl (Q2 t)),some (.ref pl),some (.str c.1),some y0]/\Same H H4/\TupsStay H2 H4/\H4 r=some (.lst ts)/\H4 pl=some (.lst ys)/\Its H0 ys ((G2 (Q2 t) ((F6 t).take i) true++(if(true&&((F6 t).take i).isEmpty)=true then[]else[.word ", "]))++(if Q2 t then[.word (c.1++": ")]else[]))/\ys.length<=3*i+2,?_,?_⟩
   ·refine⟨_,rfl,_,rfl,?_⟩
    cases hd:Q2 t with
    |false=>
     rw[hd]at its4;exact C0 ⟨ys,rfl,sm4,tst4,hr4,hp4,by rw[show(if false=true then[Th.word (c.1++": ")]else[])=[]from rfl,append_nil];exact its4,!1⟩
    |true=>
     have hcl:c.1.length<=1000:=by
      rcases hh with⟨l,rfl⟩|⟨l,rfl⟩
      ·cases hd
      ·have hm:=mem_of_getElem? hc
       rw[cD ok.wf]at hm;exact jN (oO ok.wf ok.f63.2 c hm).2
     rw[hd]at its4;refine C8 ⟨_,rfl,.inl ⟨rfl,_,SqL.of hp4⟩,_,rfl,K3 (le_trans (show c.1.length+(": " : Str).length<=1002 from Nat.add_le_add hcl (show(": " : Str).length<=2 by decide +kernel)) (!3)) (step sm4 tst4 hr4 hp4 (!1) λa1 a2 a3 a4=>⟨_,rfl,a1,a2,a3,a4,?_,by rw[length_append];show ys.length+1<=_;omega⟩)⟩;exact Its.app its4 (wd (c.1++": "))
   ·rintro _ H5 ⟨zs,rfl,sm5,tst5,hr5,hp5,its5,hl5⟩
    refine⟨_,rfl,.inl ⟨rfl,_,SqL.of hp5⟩,_,rfl,step sm5 tst5 hr5 hp5 (!1) λa1 a2 a3 a4=>⟨_,_,_,rfl,a1,a2,a3,a4,?_,by rw[length_append];show zs.length+1<=_;omega⟩⟩;rw[take_succ,hc,show(some c).toList=[c]from rfl,zQ];have:=Its.app its5 (.cons rc .nil);simp only[append_assoc]at this ⊢;exact this
 ·obtain⟨x3,x4,xs,rfl,sm,tst,hr',hp',its,hxl⟩:=p
  have htl:=pa.len;rw[take_of_length_le (!1)]at its;refine⟨_,rfl,_,rfl,?_⟩;have fin:∀(x y:Str),T3 t=.word x::(G2 (Q2 t) (F6 t) true++[.word y])->∀a,H' a=none->∀b,upd H' a (.lst [.str x]) b=none->∀e,upd (upd H' a (.lst [.str x])) b (.lst ([.str x]++xs)) e=none->∀r',upd (upd (upd H' a (.lst [.str x])) b (.lst ([.str x]++xs))) e (.lst [.str y]) r'=none->Q (.ref r') (upd (upd (upd (upd H' a (.lst [.str x])) b (.lst ([.str x]++xs))) e (.lst [.str y])) r' (.lst (([.str x]++xs)++[.str y]))):=λx y es a ha b hb e he r' hr''=>by
   refine q r' _ _ (sm.trans ((B2 ha _).trans ((B2 hb _).trans ((B2 he _).trans (B2 hr'' _))))) A6 ?_;rw[es];exact Its.app (Its.app (wd x) its) (wd y)
  have go:∀(x y:Str),T3 t=.word x::(G2 (Q2 t) (F6 t) true++[.word y])->kB (T8 (R6 K) (T8 (R6 K) (fW (aX (tC (.str x)) Z9)) (fH 2)) (fW (aX (tC (.str y)) Z9))) {nx:=λ_ H'=>Q .non H',rt:=Q} [some v,some (.bl (Q2 t)),some (.ref pl),x3,x4] H':=λx y es=>by
   refine⟨(by show 1<=sizeLine;decide),λa ha=>⟨_,rfl,dJ A6 (J9 (E5 hp' ha) hp') (le_of_lt (E8 _ (by show 1+xs.length<=_;omega))) λb hb=>⟨(by show 1<=sizeLine;decide),λe he=>?_⟩⟩⟩;refine dJ (J9 (E5 A6 he) A6) A6 (le_of_lt (E8 _ (by rw[length_append];show 1+xs.length+1<=_;omega))) λr' hr''=>?_
   exact fin x y es a ha b hb e he r' hr''
  rcases hh with⟨l,rfl⟩|⟨l,rfl⟩
  ·exact C0 (go "[" "]" rfl)
  ·exact C8 (go "{" "}" rfl)
end
end K04
namespace K04
open PySem L2 Rg
section
variable{P:Program}{w:World}{K:Frag}{mg:Str->Option Value}{base:Heap}{f:Addr}{fd:FuncData}
def AJ:Sp:=λvs H Q _=>∃(t:Th)(v:V),vs=[v]/\Rep H t v/\t.Rd/\t.size<=1000/\t.tx.length<=100000/\∀H',Same H H'->Q (.str (sL t.tx)) H'
def R3(ps:List Str):List Nat:=ps.flatMap λp=>p.cps.toList
theorem JD(ps:List Str)(p:Str):R3 (ps++[p])=R3 ps++p.cps.toList:=by unfold R3;rw[flatMap_append];simp
theorem AK:∀ps:List Str,(ps.map (·.length)).sum=(R3 ps).length
 |[]=>rfl
 |p::ps=>by
  show p.length+(ps.map (·.length)).sum=(p.cps.toList++R3 ps).length;rw[AK ps,length_append,A8]
theorem AL:∀{ps:List Str},(∀p∈ps,1<=p.length)->ps.length<=(R3 ps).length
 |[],_=>zero_le _
 |p::ps,h=>by
  have h1:=h p mem_cons_self;have h2:=AL λq hq=>h q (mem_cons_of_mem _ hq)
  show ps.length+1<=(p.cps.toList++R3 ps).length;rw[length_append,←A8];omega
theorem JE(ps:List Str){S:List Nat}(h:R3 ps=S):Txt.join "" ps=sL S:=by
 refine Q9 ?_;show(Builtin.Str.glued "" ps).cps.toList=S;rw[StrLaws.glued_eq_join,zU];exact h
theorem AM{b:Bool}:∀{cs:List (Str×Th)}{f:Bool},(∀p∈cs,p.2.size<=1000)->∀c∈G2 b cs f,c.size<=1000
 |[],_,_,c,hc=>by cases hc
 |p::r,f,h,c,hc=>by
  have hc:c∈(if f then[]else[.word ", "])++((if b then[.word (p.1++": ")]else[])++(p.2::G2 b r false)):=hc;rcases mem_append.mp hc with hc|hc
  ·cases f with
   |true=>cases hc
   |false=>rw[mem_singleton.mp hc];show 1<=1000;decide
  ·rcases mem_append.mp hc with hc|hc
   ·cases b with
    |false=>cases hc
    |true=>rw[mem_singleton.mp hc];show 1<=1000;decide
   ·rcases mem_cons.mp hc with rfl|hc
    ·exact h p mem_cons_self
    ·exact AM (λq hq=>h q (mem_cons_of_mem _ hq)) c hc
theorem AN{t:Th}(h:t.Rd):∀p∈F6 t,p.2.size<=t.size:=λp hp=>by
 have:=oR h;have h2:∀(l:List (Str×Th)),p∈l->p.2.size<=(l.map λp=>p.2.size).sum:=λl=>by
  induction l with
  |nil=>intro h;cases h
  |cons q l ih=>
   intro h;rw[map_cons,sum_cons];rcases mem_cons.mp h with rfl|h
   ·omega
   ·have:=ih h
    omega
 have:=h2 _ hp;omega
theorem JF{t:Th}(h:t.Rd)(hz:t.size<=1000):∀c∈T3 t,c.size<=1000:=by
 have key:∀{b:Bool}{x y:Str}{cs:List (Str×Th)},(∀p∈cs,p.2.size<=1000)->∀c∈Th.word x::(G2 b cs true++[.word y]),c.size<=1000:=λhp c hc=>by
  rcases mem_cons.mp hc with rfl|hc
  ·show 1<=1000;decide
  ·rcases mem_append.mp hc with hc|hc
   ·exact AM hp c hc
   ·rw[mem_singleton.mp hc]
    show 1<=1000;decide
 cases t with
 |num i=>intro c hc;rw[mem_singleton.mp hc];exact hz
 |word x=>intro c hc;rw[mem_singleton.mp hc];exact hz
 |row l=>exact key λp hp=>le_trans (AN h p hp) hz
 |dic l=>exact key λp hp=>le_trans (AN h p hp) hz
theorem AO:FnScope ["thing","pieces","waiting","part"] ["thing"] (B6 pF):=by walk_at"sc"
theorem JG(F:Fun K "thing_text" "thing_text" pF f fd)(B:Blt mg)(h_spread:D8 P w K mg base "spread" 6 ["holder"] AH):FnOk P w K mg base C6 7 f fd ["thing"] AJ:=by
 refine F.ok AO (by walk_at"ln") (λcdv A outer s H vs Q E hr h=>?_);obtain⟨t,v,rfl,rep,ok,hz,hln,q⟩:=h;have hu:=F1 hr;have nd:=AO.nd;refine F4 (A4 (B0 (i:=1) nd rfl (Or.inl rfl) (G4 A1))
  (A4 (B0 (i:=2) nd rfl (Or.inl rfl) (G4 (A0 (qv 0) A1)))
  (A4 (bQ PassesOwn.never (F8 K (qv 2) (λ_=>rfl)) (A4 (B0 (i:=3) nd rfl (Or.inl rfl) (wE K PySem.F.plainAttrs_list PySem.F.slot_list_pop PySem.F.type_list_pop wM (qv 2)))
  (A7 (B9 (F8 K (E7 (dO K) rfl B.isi boot_isinstance (A0 (qv 3) (A0 (bN (v:=.ty "str") rfl B.str boot_str rfl) A1))) (λ_=>rfl)) (A7 (P4 (K4 K PySem.F.plainAttrs_list PySem.F.slot_list_append PySem.F.type_list_append W4 (qv 1) (A0 (qv 3) A1)))) (A7 (B9 (F8 K (E7 (dO K) rfl B.isi boot_isinstance (A0 (qv 3) (A0 (bN (v:=.ty "int") rfl B.int boot_int rfl) A1))) (λ_=>rfl)) (A7 (P4 (K4 K PySem.F.plainAttrs_list PySem.F.slot_list_append PySem.F.type_list_append W4 (qv 1) (A0 (U4 mV rfl B.str boot_str (A0 (qv 3) A1)) A1)))) (A7 (P4 (K4 K PySem.F.plainAttrs_list PySem.F.slot_list_extend PySem.F.type_list_extend wN (qv 2) (A0 (wP rfl K rfl B.list rfl B.rev (D9 h_spread hr (!3) rfl (A0 (qv 3) A1))) A1))))))))))
  (A7 (B3 (K4 K PySem.F.plainAttrs_str PySem.F.slot_str_join PySem.F.type_str_join (dS K) A5 (A0 (qv 1) A1))))))) ?_
 refine⟨zero_le _,λpa hpa=>?_⟩;refine⟨_,rfl,(by show 1<=sizeLine;decide),λwt hwt=>?_⟩;have hwp:wt≠pa:=nx hwt;have hwt0:H wt=none:=nn hwt;refine⟨λm σ H'=>∃(x3:Option V)(ws:List V)(ps:List Str)(cs:List Th),σ=[some v,some (.ref pa),some (.ref wt),x3]/\Same H H'/\H' pa=some (.lst (ps.map V.str))/\H' wt=some (.lst ws)/\Its H ws cs/\(∀c∈cs,Pc c/\c.size<=1000)/\(∀p∈ps,1<=p.length)/\m=J5 cs/\R3 ps++J4 cs.reverse=t.tx,
  ⟨_,none,[v],[],[t],rfl,((Same.refl H).put hpa).put hwt0,J9 (Ne.symm hwp) A6,A6,.cons rep .nil,λc hc=>by rw[mem_singleton.mp hc];exact⟨.inl ok,hz⟩,λp hp=>(by cases hp),rfl,?_⟩,?_⟩
 ·show[]++(t.tx++[])=t.tx
  simp
 rintro m _ H' ⟨x3,ws,ps,cs,rfl,sm,hp,hw,its,okc,okp,rfl,htx⟩;have hlen:=congrArg length htx;rw[length_append]at hlen;have hpl:=AL okp;have hcl:=iY (cs:=cs.reverse) λc hc=>(okc c (List.mem_reverse.mp hc)).1
 rw[length_reverse]at hcl;have hwl:ws.length=cs.length:=Paired.length its;refine⟨.ref wt,rfl,!ws.isEmpty,.inl ⟨ws,SqL.of hw,rfl⟩,?_⟩;by_cases hne:ws=[]
 ·subst hne
  have ecs:cs=[]:=List.eq_nil_of_length_eq_zero hwl.symm;subst ecs;refine C0 ⟨rfl,_,rfl,"",pa,ps,rfl,rfl,SqL.of hp,!0,by rw[AK];omega,?_⟩;rw[JE ps (show R3 ps=t.tx by rw[←htx];simp[J4])];exact q H' sm
 ·obtain⟨wr,x,cr,c,rfl,rfl,par,rc⟩:=lS its hne
  have rc:Rep H c x:=rc;have ebool:(!(wr++[x]).isEmpty)=true:=by simp
  rw[ebool];have okc2:=okc c (!2);rw[reverse_append,List.reverse_singleton,List.singleton_append,W9]at htx;refine C8 ⟨fun σ H2=>∃m',m'<J5 (cr++[c])/\∃(x3:Option V)(ws:List V)(ps:List Str)(cs:List Th),σ=[some v,some (.ref pa),some (.ref wt),x3]/\Same H H2/\H2 pa=some (.lst (ps.map V.str))/\H2 wt=some (.lst ws)/\Its H ws cs/\(∀c∈cs,Pc c/\c.size<=1000)/\(∀p∈ps,1<=p.length)/\m'=J5 cs/\R3 ps++J4 cs.reverse=t.tx,λ_ _ z=>z,?_⟩;refine⟨.ref wt,rfl,.inl ⟨rfl,_,SqL.of hw⟩,wt,_,x,rfl,rfl,hw,!2,?_⟩;rw[dropLast_concat];have hp1:upd H' wt (.lst wr) pa=some (.lst (ps.map V.str)):=J9 (Ne.symm hwp) hp;have hw1:upd H' wt (.lst wr) wt=some (.lst wr):=A6;have sm1:Same H (upd H' wt (.lst wr)):=sm.put hwt0;generalize upd H' wt (.lst wr)=H1 at hp1 hw1 sm1 ⊢;have rep1:=rc.mono sm1;have put:∀(y:Str),y.cps.toList=c.tx->gB (.ref pa) [.str y] H1 (λ_ H2=>∃m',m'<J5 (cr++[c])/\∃(x3:Option V)(ws:List V)(ps:List Str)(cs:List Th),[some v,some (.ref pa),some (.ref wt),some x]=[some v,some (.ref pa),some (.ref wt),x3]/\Same H H2/\H2 pa=some (.lst (ps.map V.str))/\H2 wt=some (.lst ws)/\Its H ws cs/\(∀c∈cs,Pc c/\c.size<=1000)/\(∀p∈ps,1<=p.length)/\m'=J5 cs/\R3 ps++J4 cs.reverse=t.tx):=λy ey=>by
   have hy:1<=y.length:=by rw[A8,ey];exact okc2.1.pos
   refine⟨pa,_,_,rfl,rfl,hp1,by rw[length_map];exact E8 _ (!1),J5 cr,?_,_,wr,ps++[y],cr,rfl,sm1.put hpa,by rw[A6,map_append];rfl,J9 hwp hw1,par,λd hd=>okc d (mem_append_left _ hd),λp hp=>?_,rfl,?_⟩
   ·rw[aN]
    have:1<=c.wt:=by cases c<;>first|exact le_refl _|exact Nat.le_add_left 1 _
    show _<_+(c.wt+0);omega
   ·rcases mem_append.mp hp with hp|hp
    ·exact okp p hp
    ·rw[mem_singleton.mp hp];exact hy
   ·rw[JD,ey,append_assoc]
    exact htx
  refine⟨_,rfl,W1 rep1.ty (GZ _ c) ⟨_,rfl,?_⟩⟩;have rdO:((∃l,c=.row l)∨∃l,c=.dic l)->c.Rd:=λhh=>by
   rcases okc2.1 with hrd|⟨y,e,_⟩
   ·exact hrd
   ·rcases hh with⟨l,rfl⟩|⟨l,rfl⟩<;>cases e
  have ext:((∃l,c=.row l)∨∃l,c=.dic l)->∀(r:Addr)(H2:Hp)(xs:List V),c.Rd->Same H1 H2->H2 r=some (.lst xs)->Its H xs (T3 c)->∀r2,H2 r2=none->lH (.ref wt) [.ref r2] (upd H2 r2 (.lst xs.reverse)) (λ_ H2=>∃m',m'<J5 (cr++[c])/\∃(x3:Option V)(ws:List V)(ps:List Str)(cs:List Th),[some v,some (.ref pa),some (.ref wt),some x]=[some v,some (.ref pa),some (.ref wt),x3]/\Same H H2/\H2 pa=some (.lst (ps.map V.str))/\H2 wt=some (.lst ws)/\Its H ws cs/\(∀c∈cs,Pc c/\c.size<=1000)/\(∀p∈ps,1<=p.length)/\m'=J5 cs/\R3 ps++J4 cs.reverse=t.tx):=λhh r H2 xs hrd s2 hr2 i2 r2 hr2'=>by
   have hwr:wt≠r2:=E5 (s2 _ _ hw1) hr2';have hpr:pa≠r2:=E5 (s2 _ _ hp1) hr2';have hH2:H r2=none:=(sm1.trans s2).free hr2';have htl:xs.length=(T3 c).length:=Paired.length i2;have hsl:=iY (zS hrd);rw[zP hrd]at hsl;have hcrl:cr.length<=(J4 cr.reverse).length:=by
    have:=iY (cs:=cr.reverse) λd hd=>(okc d (mem_append_left _ (List.mem_reverse.mp hd))).1
    rwa [length_reverse]at this
   have hlr:wr.length=cr.length:=Paired.length par;have hlen2:=congrArg length htx;rw[length_append,length_append]at hlen2;refine⟨wt,r2,wr,xs.reverse,rfl,rfl,J9 hwr (s2 _ _ hw1),A6,by rw[length_reverse];exact le_of_lt (E8 _ (!1)),J5 (cr++(T3 c).reverse),?_,_,wr++xs.reverse,ps,cr++(T3 c).reverse,rfl,((sm1.trans s2).put hH2).put hwt0,J9 (Ne.symm hwp) (J9 hpr (s2 _ _ hp1)),A6,Its.app par (Its.rev i2),λd hd=>?_,okp,rfl,?_⟩
   ·rw[aN,aN,Ij]
    have:=Ik hrd hh;show _<_+(c.wt+0);omega
   ·rcases mem_append.mp hd with hd|hd
    ·exact okc d (mem_append_left _ hd)
    ·have hd:=List.mem_reverse.mp hd
     exact⟨zS hrd d hd,JF hrd okc2.2 d hd⟩
   ·rw[reverse_append,reverse_reverse,eN,zP hrd]
    exact htx
  cases c with
  |word y=>
   obtain rfl:x=.str y:=rc;exact C8 ⟨_,rfl,.inl ⟨rfl,_,SqL.of hp1⟩,_,rfl,put y rfl⟩
  |num i=>
   obtain rfl:x=.int i:=rc;have hi:i.natAbs<10^60:=by
    rcases okc2.1 with hrd|⟨y,e,_⟩
    ·exact hrd.wf
    ·cases e
   exact C0 ⟨_,rfl,W1 rep1.ty (mS _ _) ⟨_,rfl,C8 ⟨_,rfl,.inl ⟨rfl,_,SqL.of hp1⟩,_,rfl,i,rfl,iF hi,put (nT i) rfl⟩⟩⟩
  |row l=>
   refine C0 ⟨_,rfl,W1 rep1.ty (mS _ _) ⟨_,rfl,C0 ⟨_,rfl,.inl ⟨rfl,_,SqL.of hw1⟩,_,rfl,H,_,x,rfl,sm1,rc,rdO (.inl ⟨l,rfl⟩),okc2.2,.inl ⟨l,rfl⟩,λr H2 xs s2 hr2 i2=>⟨r,xs,rfl,SqL.of hr2,λr2 hr2'=>ext (.inl ⟨l,rfl⟩) r H2 xs (rdO (.inl ⟨l,rfl⟩)) s2 hr2 i2 r2 hr2'⟩⟩⟩⟩
  |dic l=>
   refine C0 ⟨_,rfl,W1 rep1.ty (mS _ _) ⟨_,rfl,C0 ⟨_,rfl,.inl ⟨rfl,_,SqL.of hw1⟩,_,rfl,H,_,x,rfl,sm1,rc,rdO (.inr ⟨l,rfl⟩),okc2.2,.inr ⟨l,rfl⟩,λr H2 xs s2 hr2 i2=>⟨r,xs,rfl,SqL.of hr2,λr2 hr2'=>ext (.inr ⟨l,rfl⟩) r H2 xs (rdO (.inr ⟨l,rfl⟩)) s2 hr2 i2 r2 hr2'⟩⟩⟩⟩
end
end K04
namespace K04
open PySem L2 Rg
section
variable{P:Program}{w:World}{K:Frag}{mg:Str->Option Value}{base:Heap}{f:Addr}{fd:FuncData}
theorem AQ{C CB G0 fT fR fC:Addr}{dT dR dC:FuncData}(B:Blt mg)(G:Glo mg)(h_BadThing:HasN P w K mg base "BadThing" CB G0)(h_passes:Q5 P w K mg base C "passes" 1 ["self","piece"] (cI C))(h_must:M6 P w K mg base "must_pass" 2 ["reader","piece"] (eV C CB))(h_field:M6 P w K mg base "read_field" 3 ["reader","last"] (qA C CB))(h_atom:M6 P w K mg base "read_atom" 2 ["reader"] (pZ C CB))
  (FT:Fun K "read_thing" "read_thing" eQ fT dT) (bT:Binds K dT ["reader","level"] []) (kT:keepIn K (.ref fT)=true) (mT:mg "read_thing"=some (.ref fT))
  (FR:Fun K "read_row" "read_row" jD fR dR) (bR:Binds K dR ["reader","level"] []) (kR:keepIn K (.ref fR)=true) (mR:mg "read_row"=some (.ref fR))
  (FC:Fun K "read_record" "read_record" jE fC dC) (bC:Binds K dC ["reader","level"] []) (kC:keepIn K (.ref fC)=true) (mC:mg "read_record"=some (.ref fC)):
  ∀d:Nat,d<=20->FnOk P w K mg base (G8 P w) (2*d+6) fT dT ["reader","level"] (T5 C CB (21-(d:Nat)) (B7 d))
 |0,_=>Jq FT G h_BadThing
 |d+1,h=>by
  have ih:=AQ B G h_BadThing h_passes h_must h_field h_atom FT bT kT mT FR bR kR mR FC bC kC mC d (!1);exact Jr (!1) FT B G h_BadThing h_passes ⟨fR,dR,Jm (!1) FR B h_BadThing h_passes h_must ⟨fT,dT,ih,bT,kT,mT⟩,bR,kR,mR⟩ ⟨fC,dC,Jp (!1) FC B h_BadThing h_passes h_must h_field ⟨fT,dT,ih,bT,kT,mT⟩,bC,kC,mC⟩ h_atom
def D7(S:List Nat):Nat:=S.count 58
theorem V3(a b:List Nat):D7 (a++b)=D7 a+D7 b:=List.count_append
theorem cJ(c:Nat)(a:List Nat):D7 (c::a)=D7 [c]+D7 a:=V3 [c] a
mutual
theorem qE:∀t:Th,D7 t.tx<=63->t.F63
 |.num _,_=>trivial
 |.word _,_=>trivial
 |.row l,h=>AR l true (by
   have h:D7 (91::(l.txR true++[93]))<=63:=h;rw[cJ,V3]at h;omega)
 |.dic l,h=>by
  have h:D7 (123::(l.txD true++[125]))<=63:=h;rw[cJ,V3]at h;have:=AS l true (!1);exact⟨!1,this.2⟩
theorem AR:∀(l:Ts)(f:Bool),D7 (l.txR f)<=63->l.F63
 |.nil,_,_=>trivial
 |.cons k t r,f,h=>by
  have h:D7 ((if f then[]else[44,32])++(t.tx++r.txR false))<=63:=h;rw[V3,V3]at h;exact⟨qE t (!1),AR r false (!1)⟩
theorem AS:∀(l:Ts)(f:Bool),D7 (l.txD f)<=63->l.len<=D7 (l.txD f)/\l.F63
 |.nil,_,_=>⟨zero_le _,trivial⟩
 |.cons k t r,f,h=>by
  have h:D7 ((if f then[]else[44,32])++(k.cps.toList++58::32::(t.tx++r.txD false)))<=63:=h;show r.len+1<=D7 ((if f then[]else[44,32])++(k.cps.toList++58::32::(t.tx++r.txD false)))/\t.F63/\r.F63;rw[V3,V3,cJ,cJ 32,V3]at h ⊢;have e:D7 [58]=1:=rfl;obtain⟨h1,h2⟩:=AS r false (!1);exact⟨!1,qE t (!1),h2⟩
end
mutual
theorem qF:∀t:Th,t.Wf->t.size<=t.tx.length
 |.num i,h=>(eC h).1
 |.word x,h=>(V0 h).1
 |.row l,h=>by
  have:=AT l true h;show l.size+1<=(91::(l.txR true++[93])).length;rw[length_cons,length_append];omega
 |.dic l,h=>by
  have:=AU l Str.empty true h;show l.size+1<=(123::(l.txD true++[125])).length;rw[length_cons,length_append];omega
theorem AT:∀(l:Ts)(f:Bool),l.WfR->l.size<=(l.txR f).length
 |.nil,_,_=>le_refl _
 |.cons k t r,f,h=>by
  have h1:=qF t h.2.1;have h2:=AT r false h.2.2;show t.size+r.size<=((if f then[]else[44,32])++(t.tx++r.txR false)).length;rw[length_append,length_append];omega
theorem AU:∀(l:Ts)(last:Str)(f:Bool),l.WfD last->l.size<=(l.txD f).length
 |.nil,_,_,_=>le_refl _
 |.cons k t r,last,f,h=>by
  have h1:=qF t h.2.2.1;have h2:=AU r k false h.2.2.2;show t.size+r.size<=((if f then[]else[44,32])++(k.cps.toList++58::32::(t.tx++r.txD false))).length;rw[length_append,length_append,length_cons,length_cons,length_append];omega
end
theorem gG{t:Th}{S:List Nat}(e:t.tx=S)(h:t.Wf)(hc:D7 S<=63):t.Rd:=⟨h,qE t (by rw[e];exact hc)⟩
structure TxOk(z:Str):Prop where
 asc:Asc z
 ln:z.length<=6000
 co:D7 z.cps.toList<=60
def qG(CB:Addr):Sp:=λvs H Q E=>∃z:Str,vs=[.str z]/\TxOk z/\(¬W8 z.cps.toList->∀H',Same H H'->E (.ref CB) none H')/\
 (∀t:Th,t.tx=z.cps.toList->t.Rd->t.size<=100->t.dp<=20->∀(v:V) H',Same H H'->Rep (J1 H H') t v->Q v H')
theorem AV:FnScope ["text","reader","thing"] ["text"] (B6 pM):=by walk_at"sc"
theorem AW{C CB G0:Addr}(F:Fun K "thing_of" "thing_of" pM f fd)(B:Blt mg)(G:Glo mg)(h_BadThing:HasN P w K mg base "BadThing" CB G0)(h_Reader:mL P w K mg base "Reader" C 1 ["self","text"] (Ak C))(h_Reader_ended:Q5 P w K mg base C "ended" 1 ["self"] (Ap C))(h_read_thing:M6 P w K mg base "read_thing" 46 ["reader","level"] (T5 C CB (21-(20:Nat)) (B7 20)))(h_size_of:D8 P w K mg base "size_of" 7 ["thing"] AG):FnOk P w K mg base (G8 P w) 47 f fd ["text"] (qG CB):=by
 refine Fun.okx F AV (by walk_at"ln") (λcdv A outer s H vs Q E hr h=>?_);obtain⟨z,rfl,ok,q0,q1⟩:=h;have hu:=F1 hr;have nd:=AV.nd;have hln:=ok.ln;refine F4 (A4 (B0 (i:=1) nd rfl (Or.inl rfl) (GE h_Reader hr (!3) rfl (A0 (qv 0) A1)))
  (A4 (B0 (i:=2) nd rfl (Or.inl rfl) (Q8 h_read_thing Q7 hr (!3) rfl (A0 (qv 1) (A0 A2 A1))))
  (A4 (B9 (P3 (F8 K (GD h_Reader_ended hr (!3) (qv 1)) (λ_=>rfl))) (A7 (Y6 h_BadThing hr rfl (A0 A5 A1))) C1)
  (A4 (B9 (D0 bS (D9 h_size_of hr (!3) rfl (A0 (qv 2) A1)) (dW rfl G.LARGEST) rfl) (A7 (Y6 h_BadThing hr rfl (A0 A5 A1))) C1)
  (A7 (B3 (qv 2))))))) ?_
 refine⟨_,rfl,λx dx nx' ndx hne=>⟨x,dx,z,rfl,A6,λH1 b1 hx1=>⟨rfl,?_⟩⟩⟩;have S1:Same H H1:=λb o e=>by
  have hb:b≠x:=λw=>by rw[w,nx']at e;cases e
  have hb2:b≠dx:=λw=>by rw[w,ndx]at e;cases e
  rw[b1 b hb,B4 hb,B4 hb2];exact e
 have up:∀{H2:Hp},Same (F9 H1 x) H2->Same H H2:=λs b o e=>by
  have hb:b≠x:=λw=>by rw[w,nx']at e;cases e
  exact s b o (by rw[K8 hb];exact S1 b o e)
 have no:∀{t:Th}{r:List Nat},B7 20 z.cps.toList=some (t,r)->W8 z.cps.toList->r=[]/\t.size<=100:=λ{t r} e ⟨u,h1,h2,h3,h4⟩=>by
  have:=(nJ 20 z.cps.toList u).mpr ⟨h1.symm,h2,h4⟩;rw[e]at this;cases this;exact⟨rfl,h3⟩
 refine⟨_,rfl,x,dx,z,0,rfl,⟨hx1,zero_le _,!1,ok.asc⟩,λh0 H2 s2=>q0 (λ⟨u,h1,h2,h3,h4⟩=>?_) H2 (up s2),λt r h v p' H2 s2 rd2 hr2 rep2=>?_⟩
 ·have:=(nJ 20 z.cps.toList u).mpr ⟨h1.symm,h2,h4⟩
  rw[show z.cps.toList.drop 0=z.cps.toList from rfl,this]at h0;cases h0
 have h:B7 20 z.cps.toList=some (t,r):=h;refine⟨_,rfl,x,dx,_,rfl,rd2.at_,rfl,x,dx,z,p',rfl,rd2.at_,rd2.ln,⟨_,rfl,?_⟩⟩;have hp2:=rd2.pl;by_cases hp:p'=z.length
 ·rw[decide_eq_true hp]
  have hr:r=[]:=by rw[←hr2];exact drop_of_length_le (by rw[←A8];omega)
  rw[hr]at h;obtain⟨e1,e2,e3⟩:=(nJ 20 z.cps.toList t).mp h;have hrd:t.Rd:=gG e1.symm e2 (by have:=ok.co;omega);have hsz:t.size<=100000:=by
   have:=qF t e2;rw[←e1,←A8]at this;omega
  refine C0 ⟨_,rfl,t,v,rfl,rep2.mono mM,hrd,hsz,λH3 s3=>⟨_,_,rfl,rfl,_,rfl,?_⟩⟩;have S3:=(up s2).trans s3;by_cases hs:t.size<=100
  ·refine G3 (decide_eq_false (!1)) ⟨_,rfl,q1 t e1.symm hrd hs e3 v H3 S3 ((rep2.mono (iC s3)).mono (T2 (Dom.of S1)))⟩
  ·refine F2 (decide_eq_true (!1)) ⟨!3,q0 (λg=>hs (no h g).2) H3 S3⟩
 ·rw[decide_eq_false hp]
  refine C8 ⟨!3,q0 (λg=>hp ?_) H2 (up s2)⟩;have:=(no h g).1;rw[←hr2]at this;have:=congrArg length this;rw[length_drop,←A8]at this;have:z.length-p'=0:=this;omega
end
end K04
namespace K04
open PySem L2 Rg
section
variable{P:Program}{w:World}{K:Frag}{mg:Str->Option Value}{base:Heap}{f:Addr}{fd:FuncData}
def cK(n k:Int):Int:=(n % 1000000007+7*k+1)*48271 % 2147483647*((n % 1000000007+7*k+1)*48271 % 2147483647 % 1009+k+3) % 998244353
theorem aR(n k:Int):0<=cK n k:=Int.emod_nonneg _ (!3)
def jO:Sp:=λvs H Q _=>∃n k:Int,vs=[.int n,.int k]/\0<=k/\k<=1000/\Q (.int (cK n k)) H
theorem AX:FnScope ["_law_number_here","_law_k","_law_once"] ["_law_number_here","_law_k"] (B6 pQ):=by walk_at"sc"
theorem JH(F:Fun K "_law_mixed" "_law_mixed" pQ f fd):FnOk P w K mg base C6 1 f fd ["_law_number_here","_law_k"] jO:=by
 refine F.ok AX (by walk_at"ln") (λcdv A outer s H vs Q E hr h=>?_);obtain⟨n,k,rfl,hk0,hk1,q⟩:=h;have nd:=AX.nd;refine F4 (A4 (B0 (i:=2) nd rfl (Or.inl rfl) (A3 E6 (A3 mJ (A3 (B5 K) (A3 (B5 K) (A3 E6 (qv 0) A2) (A3 mJ A2 (qv 1))) A2) A2) A2))
  (A7 (B3 (A3 E6 (A3 mJ (qv 2) (A3 (B5 K) (A3 (B5 K) (A3 E6 (qv 2) A2) (qv 1)) A2)) A2)))) ?_
 unfold cK at q;refine⟨_,rfl,_,_,rfl,rfl,(by show(0:Int)<1000000007;decide),_,rfl,_,_,rfl,rfl,.inl ⟨!3,!3⟩,J3 (J3 ⟨_,_,rfl,rfl,.inr ⟨!3,!3⟩,_,_,rfl,rfl,(by show(0:Int)<2147483647;decide),?_⟩)⟩;generalize (n % 1000000007+7*k+1)*48271=z at q ⊢;refine⟨_,rfl,_,rfl,_,_,rfl,rfl,(by show(0:Int)<1009;decide),_,rfl,J3 (J3 ⟨_,_,rfl,rfl,.inl ⟨!1,!1⟩,_,_,rfl,rfl,(by show(0:Int)<998244353;decide),?_⟩)⟩;exact q
theorem AY(c:Nat):∀(k:Nat)(acc:Array Nat),((replicate k #[c]).foldl (·++·) acc).toList=acc.toList++replicate k c
 |0,acc=>by simp
 |k+1,acc=>by
  rw[replicate_succ,List.foldl_cons,AY c k,Array.toList_append,append_assoc,replicate_succ];rfl
theorem AZ{c:Nat}{k:Nat}(hk:k<=6000):MulOk ⟨#[c]⟩ (k:Int)/\(Txt.mul ⟨#[c]⟩ (k:Int)).cps.toList=replicate k c:=by
 have hl:(⟨#[c]⟩:Str).length=1:=rfl;refine⟨⟨by simp;omega,λh1 _ h2=>?_,λh1 _=>?_⟩,?_⟩
 ·rw[hl]at h2
  have h3:(1:Int)<=(2^63-1) / (k:Int):=by
   rw[Int.le_ediv_iff_mul_le (!1)];omega
  have:((1:Nat):Int)>(2^63-1) / (k:Int):=h2;omega
 ·rw[hl,Nat.one_mul,toNat_natCast]
  unfold Builtin.Str.tooLong;have:=E8 k (!1);exact decide_eq_false (!1)
 ·unfold Txt.mul
  by_cases h1:(k:Int)<1
  ·rw[if_pos h1,show k=0 by omega];rfl
  ·rw[if_neg h1]
   by_cases h2:((k:Int)==1||(⟨#[c]⟩:Str).length==0)=true
   ·rw[if_pos h2]
    rw[hl]at h2;have h3:(k:Int)=1:=by simpa using h2
    obtain rfl:k=1:=by omega
    rfl
   ·rw[if_neg h2,toNat_natCast]
    exact AY c k #[]
theorem mul_one{c:Nat}{k:Nat}(hk:k<=60):MulOk ⟨#[c]⟩ (k:Int)/\(Txt.mul ⟨#[c]⟩ (k:Int)).cps.toList=replicate k c:=AZ (!1)
theorem JI{cs:List Nat}{z:Str}(e:z.cps.toList=cs)(h1:1<=cs.length)(h2:cs.length<=8)(h3:∀c∈cs,97<=c/\c<=122):K5 z=true:=by
 unfold K5;rw[A8,e,decide_eq_true h1,decide_eq_true h2];refine all_eq_true.mpr λc hc=>?_
 have:=h3 c hc;unfold Y2;rw[decide_eq_true this.1,decide_eq_true this.2];rfl
theorem cW{c k:Nat}(hk:k<=60):(Txt.mul ⟨#[c]⟩ (k:Int)).length=k:=by rw[A8,(mul_one hk).2,length_replicate]
def jP(z:Str)(i:Int):Nat:=(I0 z.cps.toList i).getD 0
def aS(n:Int):Str:=Txt.mul ⟨#[jP "abz" (n / 64 % 3)]⟩ (n / 8 % (1+n % 8))++⟨#[jP "abcdefghijklmnopqrstuvwxyz" (n / 192 % 26)]⟩++Txt.mul ⟨#[jP "abz" (n / 64 % 3)]⟩ (1+n % 8-1-n / 8 % (1+n % 8))
theorem eD{i:Int}(h0:0<=i)(h1:i<26):∃c:Nat,I0 ("abcdefghijklmnopqrstuvwxyz" : Str).cps.toList i=some c/\97<=c/\c<=122:=by
 have hlb:(("abcdefghijklmnopqrstuvwxyz" : Str).cps.toList)=range' 97 26:=by decide +kernel
 obtain⟨c,ec,mc⟩:=wR (xs:=("abcdefghijklmnopqrstuvwxyz" : Str).cps.toList) h0 (by rw[hlb];show _<(26:Int);omega);rw[hlb,List.mem_range'_1]at mc;exact⟨c,ec,!1⟩
theorem JJ{b c j i:Nat}(hb:97<=b/\b<=122)(hc:97<=c/\c<=122)(h:j+i<=7):K5 (Txt.mul ⟨#[b]⟩ (j:Int)++⟨#[c]⟩++Txt.mul ⟨#[b]⟩ (i:Int))=true:=by
 refine JI (cs:=replicate j b++[c]++replicate i b) (by rw[PyProof.Rows.cps_toList_append,PyProof.Rows.cps_toList_append,(mul_one (!1)).2,(mul_one (!1)).2]) ?_ ?_ λd hd=>?_
 ·simp;omega
 ·simp;omega
 ·rcases mem_append.mp hd with hd|hd
  ·rcases mem_append.mp hd with hd|hd
   ·rw[List.eq_of_mem_replicate hd];exact hb
   ·rw[mem_singleton.mp hd];exact hc
  ·rw[List.eq_of_mem_replicate hd];exact hb
theorem Ba{n:Int}(h0:0<=n):∃k j i b c:Nat,1+n % 8=(k:Int)/\n / 8 % (k:Int)=(j:Int)/\(k:Int)-1-(j:Int)=(i:Int)/\j+1+i=k/\k<=8/\I0 ("abz" : Str).cps.toList (n / 64 % 3)=some b/\I0 ("abcdefghijklmnopqrstuvwxyz" : Str).cps.toList (n / 192 % 26)=some c/\(97<=b/\b<=122)/\(97<=c/\c<=122)/\aS n=Txt.mul ⟨#[b]⟩ (j:Int)++⟨#[c]⟩++Txt.mul ⟨#[b]⟩ (i:Int):=by
 obtain⟨k,hk⟩:∃k:Nat,1+n % 8=(k:Int):=⟨(1+n % 8).toNat,!1⟩
 obtain⟨j,hj⟩:∃j:Nat,n / 8 % (1+n % 8)=(j:Int):=⟨(n / 8 % (1+n % 8)).toNat,by have:=Int.emod_nonneg (n / 8) (show(1+n % 8)≠0 by omega);omega⟩
 have hjk:j<k:=by have:=Int.emod_lt_of_pos (n / 8) (show 0<1+n % 8 by omega);omega
 have hk8:k<=8:=by omega
 rw[hk]at hj;have hb:(("abz" : Str).cps.toList)=[97,98,122]:=by decide +kernel
 obtain⟨b,eb,mb⟩:=wR (xs:=("abz" : Str).cps.toList) (i:=n / 64 % 3) (!1) (by rw[hb];show _<(3:Int);omega);obtain⟨c,ec,hc⟩:=eD (i:=n / 192 % 26) (!1) (!1);have hb':97<=b/\b<=122:=by
  rw[hb]at mb;simp only[mem_cons,not_mem_nil,or_false]at mb;omega
 obtain⟨i,hi⟩:∃i:Nat,(k:Int)-1-(j:Int)=(i:Int):=⟨k-1-j,!1⟩
 refine⟨k,j,i,b,c,hk,hj,hi,!1,hk8,eb,ec,hb',hc,?_⟩;unfold aS jP;rw[eb,ec,hk,hj,hi];rfl
theorem eX{n:Int}(h0:0<=n):K5 (aS n)=true:=by
 obtain⟨k,j,i,b,c,hk,hj,hi,hji,hk8,eb,ec,hb,hc,e⟩:=Ba h0;rw[e];exact JJ hb hc (!1)
def jQ:Sp:=λvs H Q _=>∃n:Int,vs=[.int n]/\0<=n/\Q (.str (aS n)) H
theorem Bb:FnScope ["_law_number_here","_law_letters","_law_size","_law_at","_law_base"] ["_law_number_here"] (B6 pR):=by walk_at"sc"
theorem JK(F:Fun K "_law_name" "_law_name" pR f fd)(B:Blt mg):FnOk P w K mg base C6 1 f fd ["_law_number_here"] jQ:=by
 refine F.ok Bb (by walk_at"ln") (λcdv A outer s H vs Q E hr h=>?_);obtain⟨n,rfl,h0,q⟩:=h;have hu:=F1 hr;have nd:=Bb.nd;refine F4 (A4 (B0 (i:=1) nd rfl (Or.inl rfl) A5)
  (A4 (B0 (i:=2) nd rfl (Or.inl rfl) (A3 (B5 K) A2 (A3 E6 (qv 0) A2)))
  (A4 (B0 (i:=3) nd rfl (Or.inl rfl) (A3 E6 (A3 J8 (qv 0) A2) (qv 2)))
  (A4 (B0 (i:=4) nd rfl (Or.inl rfl) (E4 K hu A5 (A3 E6 (A3 J8 (qv 0) A2) A2) (λ_ _=>rfl)))
  (A7 (B3 (A3 (B5 K) (A3 (B5 K) (A3 Y1 (qv 4) (qv 3)) (E4 K hu (qv 1) (A3 E6 (A3 J8 (qv 0) A2) A2) (λ_ _=>rfl))) (A3 Y1 (qv 4) (A3 U5 (A3 U5 (qv 2) A2) (qv 3)))))))))) ?_
 refine⟨_,rfl,_,_,rfl,rfl,(by show(0:Int)<8;decide),J3 ⟨_,rfl,_,_,rfl,rfl,⟨!3,!3⟩,_,rfl,_,_,rfl,rfl,(by show(0:Int)<_;omega),?_⟩⟩;obtain⟨k,j,i,b,c,hk,hj,hi,hji,hk8,eb,ec,hb,hc,e⟩:=Ba h0;rw[e]at q;rw[hk];dsimp only;rw[hj];refine⟨_,rfl,_,_,rfl,rfl,⟨!3,!3⟩,_,_,rfl,rfl,(by show(0:Int)<3;decide),O6 (!0) eb ?_⟩;have hj60:j<=60:=by omega
 have hi60:i<=60:=by omega
 refine⟨_,rfl,_,rfl,_,_,rfl,rfl,(mul_one hj60).1,_,rfl,_,rfl,_,_,rfl,rfl,⟨!3,!3⟩,_,_,rfl,rfl,(by show(0:Int)<26;decide),O6 (!0) ec (K3 (by rw[cW hj60];exact G7 (by show j+1<=1000;omega)) ⟨_,rfl,_,rfl,_,_,rfl,rfl,_,rfl,_,_,rfl,rfl,_,_,rfl,rfl,?_⟩)⟩;rw[hi];refine⟨(mul_one hi60).1,K3 (G7 ?_) q⟩;rw[A8,PyProof.Rows.cps_toList_append,length_append,(mul_one hj60).2,length_replicate,cW hi60];show j+1+i<=1000;omega
theorem Bc:("9" : Str)=⟨#[57]⟩:=by decide +kernel
theorem JL:∀k<61,0<k->PySem.intText? (Txt.mul ("9" : Str) ((k:Nat):Int))=some ((10:Int)^k-1):=by decide +kernel
def jR(n c:Int):Int:=if n % 6=0 then n / 6 % 5-2 else if n % 6=1 then n / 6 % 2001-1000 else if n % 6=2 then c % 10^60 else if n % 6=3 then 0-c % 10^60 else if n / 720 % 2=0 then 10^(1+n / 6 % 60).toNat-1-n / 360 % 2 else 0-(10^(1+n / 6 % 60).toNat-1-n / 360 % 2)
theorem JM(n c:Int):(jR n c).natAbs<10^60:=by
 have hc0:0<=c % 10^60:=Int.emod_nonneg _ (!3);have hc1:c % 10^60<10^60:=Int.emod_lt_of_pos _ (!3);have hp:∀k<61,0<k->(10:Int)<=10^k/\(10:Int)^k<=10^60:=by decide +kernel
 have hp':=hp (1+n / 6 % 60).toNat (!1) (!1);unfold jR;generalize (10:Int)^(1+n / 6 % 60).toNat=t at hp' ⊢;generalize c % 10^60=d at hc0 hc1 ⊢;split
 ·omega
 split
 ·omega
 split
 ·omega
 split
 ·omega
 split<;>omega
def jS:Sp:=λvs H Q _=>∃n c:Int,vs=[.int n,.int c]/\0<=n/\∀H',Same H H'->Q (.int (jR n c)) H'
theorem Be:FnScope ["_law_number_here","_law_cell","_law_how","_law_nines"] ["_law_number_here","_law_cell"] (B6 pS):=by walk_at"sc"
theorem JN(F:Fun K "_law_number" "_law_number" pS f fd)(B:Blt mg):FnOk P w K mg base C6 1 f fd ["_law_number_here","_law_cell"] jS:=by
 refine F.ok Be (by walk_at"ln") (λcdv A outer s H vs Q E hr h=>?_);obtain⟨n,c,rfl,h0,q⟩:=h;have hu:=F1 hr;have nd:=Be.nd;refine F4 (A4 (B0 (i:=2) nd rfl (Or.inl rfl) (A3 E6 (qv 0) A2))
  (A4 (B9 (D0 J0 (qv 2) A2 rfl) (A7 (B3 (A3 U5 (A3 E6 (A3 J8 (qv 0) A2) A2) A2))) C1)
  (A4 (B9 (D0 J0 (qv 2) A2 rfl) (A7 (B3 (A3 U5 (A3 E6 (A3 J8 (qv 0) A2) A2) A2))) C1)
  (A4 (B9 (D0 J0 (qv 2) A2 rfl) (A7 (B3 (A3 E6 (qv 1) (A3 wK A2 A2)))) C1)
  (A4 (B9 (D0 J0 (qv 2) A2 rfl) (A7 (B3 (A3 U5 A2 (A3 E6 (qv 1) (A3 wK A2 A2))))) C1)
  (A4 (B0 (i:=3) nd rfl (Or.inl rfl) (A3 U5 (U4 iD rfl B.int boot_int (A0 (A3 Y1 A5 (A3 (B5 K) A2 (A3 E6 (A3 J8 (qv 0) A2) A2))) A1)) (A3 E6 (A3 J8 (qv 0) A2) A2)))
  (A7 (B3 (E4 K hu (G4 (A0 (qv 3) (A0 (A3 U5 A2 (qv 3)) A1))) (A3 E6 (A3 J8 (qv 0) A2) A2) (λ_ _=>rfl)))))))))) ?_
 unfold jR at q;have yes:∀{i j:Int},decide (V.int i=V.int j)=true->i=j:=λh=>V.int.inj (of_decide_eq_true h)
 have no:∀{i j:Int},¬decide (V.int i=V.int j)=true->¬i=j:=λh e=>h (decide_eq_true (congrArg V.int e))
 refine⟨_,rfl,_,_,rfl,rfl,(by show(0:Int)<6;decide),⟨_,rfl,rfl,_,rfl,L3 (λh=>?_) (λh=>?_)⟩⟩
 ·rw[if_pos (yes h)]at q
  exact⟨_,rfl,_,_,rfl,rfl,⟨!3,!3⟩,_,_,rfl,rfl,(by show(0:Int)<5;decide),_,_,rfl,rfl,q _ (Same.refl _)⟩
 rw[if_neg (no h)]at q;refine⟨_,rfl,rfl,_,rfl,L3 (λh=>?_) (λh=>?_)⟩
 ·rw[if_pos (yes h)]at q
  exact⟨_,rfl,_,_,rfl,rfl,⟨!3,!3⟩,_,_,rfl,rfl,(by show(0:Int)<2001;decide),_,_,rfl,rfl,q _ (Same.refl _)⟩
 rw[if_neg (no h)]at q;refine⟨_,rfl,rfl,_,rfl,L3 (λh=>?_) (λh=>?_)⟩
 ·rw[if_pos (yes h)]at q
  exact⟨_,rfl,_,_,rfl,rfl,⟨!3,!3,!3⟩,_,_,rfl,rfl,(by show(0:Int)<10^60;decide),q _ (Same.refl _)⟩
 rw[if_neg (no h)]at q;refine⟨_,rfl,rfl,_,rfl,L3 (λh=>?_) (λh=>?_)⟩
 ·rw[if_pos (yes h)]at q
  exact⟨_,rfl,_,_,rfl,rfl,⟨!3,!3,!3⟩,_,_,rfl,rfl,(by show(0:Int)<10^60;decide),_,_,rfl,rfl,q _ (Same.refl _)⟩
 rw[if_neg (no h)]at q;obtain⟨k,hk⟩:∃k:Nat,1+n / 6 % 60=(k:Int):=⟨(1+n / 6 % 60).toNat,!1⟩
 have hk60:k<=60:=by omega
 have hm:=JL k (!1) (!1);rw[hk,toNat_natCast]at q;have hmo:MulOk ("9" : Str) (k:Int):=by rw[Bc];exact(mul_one hk60).1
 have hml:(Txt.mul ("9" : Str) (k:Int)).length<=640:=by rw[Bc,cW hk60];omega
 refine⟨_,rfl,_,_,rfl,rfl,⟨!3,!3⟩,_,_,rfl,rfl,(by show(0:Int)<60;decide),J3 ⟨_,_,rfl,rfl,?_⟩⟩;rw[hk];refine⟨hmo,.inr ⟨_,_,rfl,hm,hml,?_⟩⟩;refine⟨_,rfl,_,_,rfl,rfl,⟨!3,!3⟩,_,_,rfl,rfl,(by show(0:Int)<2;decide),_,_,rfl,rfl,?_⟩;dsimp only;generalize (10:Int)^k-1-n / 360 % 2=m at q ⊢;refine⟨_,rfl,_,rfl,_,_,rfl,rfl,(by show 2<=sizeLine;decide),λp hp=>⟨_,rfl,_,_,rfl,rfl,⟨!3,!3⟩,_,_,rfl,rfl,(by show(0:Int)<2;decide),?_⟩⟩;have S:=B2 hp (.lst [.int m,.int (0-m)]);by_cases h7:n / 720 % 2=0
 ·rw[if_pos h7]at q
  dsimp only;rw[h7];exact N2 (SqL.of A6) (v:=.int m) rfl (q _ S)
 ·rw[if_neg h7]at q
  dsimp only;rw[show n / 720 % 2=1 by omega];exact N2 (SqL.of A6) (v:=.int (0-m)) rfl (q _ S)
end
end K04
namespace K04
open PySem L2 Rg
section
variable{P:Program}{w:World}{K:Frag}{mg:Str->Option Value}{base:Heap}{f:Addr}{fd:FuncData}
def TL:Nat->Th->Prop
 |_,.num i=>i.natAbs<10^60
 |_,.word x=>C7 x=true
 |0,.row _=>False
 |0,.dic _=>False
 |d+1,.row l=>l.len<=3/\∀p∈l.toL,TL d p.2
 |d+1,.dic l=>l.len<=3/\l.keys.Nodup/\∀p∈l.toL,C7 p.1=true/\TL d p.2
theorem TL.num{d:Nat}{i:Int}(h:i.natAbs<10^60):TL d (.num i):=by cases d<;>exact h
theorem TL.word{d:Nat}{x:Str}(h:C7 x=true):TL d (.word x):=by cases d<;>exact h
theorem Bf(k:Str)(t:Th):∀l:Ts,(l.snoc k t).toL=l.toL++[(k,t)]
 |.nil=>rfl
 |.cons j u r=>congrArg ((j,u)::·) (Bf k t r)
theorem Bg(k:Str)(t:Th):∀l:Ts,∀p∈(l.put k t).toL,p=(k,t)∨p∈l.toL
 |.nil,p,h=>.inl (by simpa [Ts.put,Ts.toL]using h)
 |.cons i u r,p,h=>by
  have h:p∈(if i=k then Ts.cons i t r else .cons i u (r.put k t)).toL:=h;split at h
  ·rename_i hi
   rcases mem_cons.mp (show p∈(i,t)::r.toL from h)with e|e
   ·exact .inl (by rw[e,hi])
   ·exact .inr (mem_cons_of_mem _ e)
  ·rcases mem_cons.mp (show p∈(i,u)::(r.put k t).toL from h)with e|e
   ·exact .inr (by rw[e];exact mem_cons_self)
   ·rcases Bg k t r p e with e|e
    ·exact .inl e
    ·exact .inr (mem_cons_of_mem _ e)
def eY(d:Nat):Sp:=λvs H Q _=>∃n c:Int,vs=[.int n,.int c,.int (d:Nat)]/\0<=n/\∀(v:V)(H':Hp)(t:Th),Same H H'->Rep (J1 H H') t v->TL d t->Q v H'
def Bh:Nat->Sp
 |0=>λ_ _ _ _=>False
 |d+1=>eY d
theorem Bi:FnScope ["_law_number_here","_law_cell","_law_deep","_law_how","_law_rest","_law_made","_law_k"] ["_law_number_here","_law_cell","_law_deep"] (B6 eR):=by walk_at"sc"
theorem qH{d:Nat}(hd:d<=2)(F:Fun K "_law_thing" "_law_thing" eR f fd)(B:Blt mg)(h_l_mixed:D8 P w K mg base "_law_mixed" 1 ["_law_number_here","_law_k"] jO)(h_l_name:D8 P w K mg base "_law_name" 1 ["_law_number_here"] jQ)(h_l_number:D8 P w K mg base "_law_number" 1 ["_law_number_here","_law_cell"] jS)(h_l_thing:D8 P w K mg base "_law_thing" (d+1) ["_law_number_here","_law_cell","_law_deep"] (Bh d)):FnOk P w K mg base C6 (d+2) f fd ["_law_number_here","_law_cell","_law_deep"] (eY d):=by
 refine F.ok Bi (by walk_at"ln") (λcdv A outer s H vs Q E hr h=>?_);obtain⟨n,c,rfl,h0,q⟩:=h;have hu:=F1 hr;have nd:=Bi.nd;refine F4 (A4 (B0 (i:=3) nd rfl (Or.inl rfl) (A3 E6 (qv 0) A2))
  (A4 (B0 (i:=4) nd rfl (Or.inl rfl) (A3 J8 (qv 0) A2))
  (A4 (B9 (R9 (W2 (D0 mK (qv 3) A2 rfl) (X8 (R9 (dM (D0 J0 (qv 2) A2 rfl) (hJ (D0 bS (qv 3) A2 rfl))))))) (A7 (B3 (D9 h_l_number hr (!1) rfl (A0 (qv 4) (A0 (A3 J8 (qv 1) (A3 (B5 K) A2 (qv 2))) A1))))) C1)
  (A4 (B9 (D0 mK (qv 3) A2 rfl) (A7 (B3 (D9 h_l_name hr (!1) rfl (A0 (qv 4) A1)))) C1)
  (A4 (B9 (D0 J0 (qv 3) A2 rfl) (A7 (B3 (W3 rfl (.inl rfl) (hV rfl B.range (A0 (A3 E6 (qv 4) A2) A1)) (LcStG.ok (sc:=B6 eR) (N:=["_law_number_here","_law_cell","_law_deep","_law_how","_law_rest","_law_made","_law_k"]) (fr:=[("_law_cell",1),("_law_number_here",0),("_law_deep",2)]) (by walk_at"s7") rfl rfl) (λ_ _ _ _=>Y0) (λ_ _ _ _=>(D9 h_l_thing hr (!1) rfl (A0 (D9 h_l_mixed hr (!1) rfl (A0 (qv 2) (A0 (A3 (B5 K) A2 (qv 0)) A1))) (A0 (qv 1) (A0 (A3 U5 (qv 3) A2) A1)))))))) C1)
  (A4 (B0 (i:=5) nd rfl (Or.inl rfl) wD)
  (A4 (iA PassesOwn.never rfl (hV rfl B.range (A0 (A3 E6 (qv 4) A2) A1)) (bP (i:=6) nd rfl (Or.inl rfl)) (A7 (dN hu (D9 h_l_thing hr (!1) rfl (A0 (D9 h_l_mixed hr (!1) rfl (A0 (qv 0) (A0 (A3 (B5 K) A2 (qv 6)) A1))) (A0 (qv 1) (A0 (A3 U5 (qv 2) A2) A1)))) (qv 5) (D9 h_l_name hr (!1) rfl (A0 (D9 h_l_mixed hr (!1) rfl (A0 (qv 4) (A0 (A3 (B5 K) A2 (qv 6)) A1))) A1)))))
  (A7 (B3 (qv 5)))))))))) ?_
 refine⟨_,rfl,_,_,rfl,rfl,(by show(0:Int)<7;decide),_,rfl,_,_,rfl,rfl,⟨!3,!3⟩,?_⟩;have hr0:0<=n / 7:=Int.ediv_nonneg h0 (!3);have num:∀{Q':VK}{G:Hp},Same H G->(∀v H',Same G H'->(∃t,(∀K,Rep K t v)/\TL d t)->Q' v H')->jS [.int (n / 7),.int (c / (1+(d:Int)))] G Q' E0:=λs k=>⟨_,_,rfl,hr0,λH' s'=>k _ H' s' ⟨.num _,λ_=>rfl,TL.num (JM _ _)⟩⟩
 have fin:∀v H',Same H H'->(∃t,(∀K,Rep K t v)/\TL d t)->Q v H':=λv H' s ⟨t,h1,h2⟩=>q v H' t s (h1 _) h2
 refine⟨_,rfl,_,_,rfl,rfl,_,rfl,?_⟩;by_cases h1:n % 7<2
 ·exact F2 (decide_eq_true h1) (C8 ⟨_,rfl,_,rfl,_,rfl,J3 ⟨_,_,rfl,rfl,⟨!1,!1⟩,num (Same.refl H) fin⟩⟩)
 refine G3 (decide_eq_false h1) ⟨_,rfl,rfl,_,rfl,?_⟩;cases d with
 |zero=>
  refine F2 (decide_eq_true rfl) ⟨_,rfl,_,_,rfl,rfl,_,rfl,?_⟩;by_cases h3:3<n % 7
  ·exact F2 (decide_eq_true h3) ⟨_,rfl,_,rfl,_,rfl,J3 ⟨_,_,rfl,rfl,⟨!1,!1⟩,num (Same.refl H) fin⟩⟩
  ·exact G3 (decide_eq_false h3) ⟨_,rfl,_,_,rfl,rfl,_,rfl,F2 (decide_eq_true (!1)) ⟨_,rfl,n / 7,rfl,hr0,fin _ H (Same.refl H) ⟨.word _,λ_=>rfl,TL.word (eX hr0)⟩⟩⟩
 |succ e=>
  refine G3 (decide_eq_false (λz=>by have:=V.int.inj z;omega)) (C0 ⟨_,rfl,_,_,rfl,rfl,_,rfl,?_⟩);by_cases h4:n % 7<4
  ·exact F2 (decide_eq_true h4) ⟨_,rfl,n / 7,rfl,hr0,fin _ H (Same.refl H) ⟨.word _,λ_=>rfl,TL.word (eX hr0)⟩⟩
  refine G3 (decide_eq_false h4) ⟨_,rfl,rfl,_,rfl,?_⟩;have eback:∀m:Int,[V.int m,V.int c,V.int (((e+1:Nat):Int)-1)]=[V.int m,V.int c,V.int (e:Nat)]:=λm=>by
   rw[show(((e+1:Nat):Int)-1)=(e:Nat) by omega]
  by_cases h5:n % 7=4
  ·refine F2 (decide_eq_true (congrArg V.int h5)) ?_
   refine⟨_,rfl,_,_,rfl,rfl,(by show(0:Int)<4;decide),n / 7 % 4,rfl,!1,!1,X6 (gY (lo:=0) (n:=(n / 7 % 4).toNat)) (λi ys H'=>Same H H'/\ys.length=i/\∃l:Ts,RepR (J1 H H') l ys/\∀p∈l.toL,TL e p.2) (G7 (!1)) ⟨Same.refl H,rfl,.nil,rfl,λp hp=>by cases hp⟩ (λi ys H' _ p=>⟨trivial,!1⟩) (λi x ys H1 H2 hi p y=>?_) (λys H' p r hr'=>?_)⟩
   ·obtain⟨rfl,rfl⟩:=y
    obtain⟨sm,hy,l,hl,hT⟩:=p;refine⟨_,rfl,rfl,_,rfl,_,rfl,J3 ⟨n,_,rfl,!1,!1,_,rfl,_,rfl,_,_,rfl,rfl,?_⟩⟩;refine⟨_,c,eback _,aR _ _,λv H3 t s3 rep ht=>⟨sm.trans s3,by rw[length_append,hy];rfl,l.snoc Str.empty t,RepR.snoc (rep.mono (T2 (Dom.of sm))) (hl.mono (iC s3)),λp hp=>?_⟩⟩;rw[Bf]at hp;rcases mem_append.mp hp with hp|hp
    ·exact hT p hp
    ·rw[mem_singleton.mp hp];exact ht
   ·obtain⟨sm,hy,l,hl,hT⟩:=p
    have s2:=B2 hr' (.lst ys);refine q (.ref r) _ (.row l) (sm.trans s2) ⟨r,ys,rfl,W6 (sm.free hr') A6,hl.mono (iC s2)⟩ ⟨?_,hT⟩;rw[←hl.len,hy];omega
  ·refine G3 (decide_eq_false (λz=>h5 (V.int.inj z))) λmd hmd=>?_
   have gm:(upd H md (.dK [])) md≠none:=by rw[A6];simp
   refine⟨_,rfl,_,_,rfl,rfl,(by show(0:Int)<4;decide),n / 7 % 4,rfl,!1,!1,gU (gY (lo:=0) (n:=(n / 7 % 4).toNat)) (λi σ' H'=>∃pk kvs,∃l:Ts,σ'=[some (.int n),some (.int c),some (.int ((e+1:Nat))),some (.int (n % 7)),some (.int (n / 7)),some (.ref md),pk]/\Same H H'/\Dom (upd H md (.dK [])) H'/\H' md=some (.dK kvs)/\RepD (J1 (upd H md (.dK [])) H') l kvs/\l.len<=i/\l.keys.Nodup/\∀p∈l.toL,C7 p.1=true/\TL e p.2)
    ⟨none,[],.nil,rfl,B2 hmd _,Dom.refl _,A6,rfl,zero_le _,nodup_nil,λp hp=>by cases hp⟩ (λi σ' H' hi p=>trivial) (λi x σ' H1 H2 hi p y=>?_) (fun σ' H' p=>?_)⟩
   ·obtain⟨rfl,rfl⟩:=y
    obtain⟨pk,kvs,l,rfl,sm,dm,hm,hl,hll,hnd,hT⟩:=p;refine⟨_,rfl,_,rfl,J3 ⟨n,_,rfl,!1,!1,_,rfl,_,rfl,_,_,rfl,rfl,?_⟩⟩;refine⟨_,c,eback _,aR _ _,λv H3 t s3 rep ht=>⟨_,rfl,_,rfl,_,rfl,J3 ⟨n / 7,_,rfl,!1,!1,_,rfl,aR _ _,?_⟩⟩⟩;have hm3:=s3 _ _ hm;have hkl:kvs.length<=3:=by rw[hl.len];omega
    refine mB hm3 (uE (!1)) ?_;have hnm:=eX (aR (n / 7) (40+(0+(i:Int))));generalize aS (cK (n / 7) (40+(0+(i:Int))))=nm at hnm ⊢;have hl3:RepD (J1 (upd H md (.dK [])) H3) l kvs:=hl.mono (iC s3);have rep3:Rep (J1 (upd H md (.dK [])) H3) t v:=rep.mono (T2 dm);refine⟨_,_,l.put nm t,rfl,(sm.trans s3).put hmd,(dm.trans (Dom.of s3)).upd,A6,?_,le_trans (Im nm t l) (!1),Il hnd,λp hp=>?_⟩
    ·rw[dQ gm]
     exact RepD.put rep3 hnd hl3
    ·rcases Bg nm t l p hp with rfl|hp
     ·exact⟨hnm,ht⟩
     ·exact hT p hp
   ·obtain⟨pk,kvs,l,rfl,sm,dm,hm,hl,hll,hnd,hT⟩:=p
    refine⟨_,rfl,q (.ref md) H' (.dic l) sm ⟨md,kvs,rfl,W6 hmd hm,hl.mono (T2 (Dom.of (B2 hmd _)))⟩ ⟨!1,hnd,hT⟩⟩
theorem JO:FnOk P w K mg base C6 1 f fd ["_law_number_here","_law_cell","_law_deep"] (Bh 0):=⟨λvs H Q E h=>h.elim,λA outer s H args us vs Q E _ _ _ _ h=>h.elim⟩
theorem JP(F:Fun K "_law_thing" "_law_thing" eR f fd)(B:Blt mg)(bF:Binds K fd ["_law_number_here","_law_cell","_law_deep"] [])(kF:keepIn K (.ref f)=true)(mF:mg "_law_thing"=some (.ref f))(h_l_mixed:D8 P w K mg base "_law_mixed" 1 ["_law_number_here","_law_k"] jO)(h_l_name:D8 P w K mg base "_law_name" 1 ["_law_number_here"] jQ)(h_l_number:D8 P w K mg base "_law_number" 1 ["_law_number_here","_law_cell"] jS):FnOk P w K mg base C6 4 f fd ["_law_number_here","_law_cell","_law_deep"] (eY 2):=
 have t0:=qH (d:=0) (!3) F B h_l_mixed h_l_name h_l_number ⟨f,fd,JO,bF,kF,mF⟩;have t1:=qH (d:=1) (!3) F B h_l_mixed h_l_name h_l_number ⟨f,fd,t0,bF,kF,mF⟩
 qH (d:=2) (!3) F B h_l_mixed h_l_name h_l_number ⟨f,fd,t1,bF,kF,mF⟩
end
end K04
namespace K04
open PySem PySem.W L2 Rg
section
variable{P:Program}{w:World}{K:Frag}{mg:Str->Option Value}{base:Heap}{f:Addr}{fd:FuncData}
def JQ:Pos:=⟨198,34,198,94⟩
def cM:Str:=(("_law_in_order" : Str)++".<locals>.")++"<lambda>"
abbrev Z4(Pt:Addr)(H:Hp):Prop:=TabOk Pt JQ cM H
abbrev qI:Arguments:={posonlyargs:=[],args:=[{arg:="_law_name_here",annotation:=none,pos:=⟨198,41,198,55⟩}],vararg:=none,kwonlyargs:=[],kw_defaults:=[],kwarg:=none,defaults:=[]}
abbrev qJ:PySem.Expr:=.Tuple [.Call (.Name "len" ⟨198,58,198,61⟩) [.Name "_law_name_here" ⟨198,62,198,76⟩] [] ⟨198,58,198,77⟩,.Name "_law_name_here" ⟨198,79,198,93⟩] 0 ⟨198,57,198,94⟩
abbrev jT:Scope:={kind:=.function,names:=[("_law_name_here",.local),("len",.globalImplicit)],isGenerator:=false,isCoroutine:=false,more:=[]}
def JR(K:Frag):List V->List V->Hp->VK->Prop:=λvs zs H Q=>∃(f c' a:Addr)(xs:List Str),vs=[.ref a]/\zs=[.ref f]/\H f=some (cE f c' cM qI qJ jT)/\H c'=some (aO c' cM)/\SqL K H a (xs.map V.str)/\xs.length<64/\(∀x∈xs,x.length<=1000)/\∀(q:Addr)(H':Hp),Same H H'->H' q=some (.lst ((L5 xs).map V.str))->Q (.ref q) H'
theorem JS:FnScope ["_law_name_here"] ["_law_name_here"] jT:=by walk_at"sc"
theorem JT{X:Cx}(B:Blt X.mg)(hc:X.calm=true)(hne:∀e s,X.xe e s->False)(hr:Room 3 X.A):gN X "sorted" [Str.ofString "key"] (JR X.K):=by
 intro ζ s σ H vs zs us ws Q I rv rz h;obtain⟨f,c',a,xs,rfl,rfl,hf,hc',ha,h64,hx,q⟩:=h;have F:=Ix (CX:=C6) (P:=X.prog) (w:=X.w) (K:=X.K) (mg:=X.mg) (base:=X.base) (k:=0) (f:=f) (c':=c') (q:=cM) (params:=qI) (body:=qJ) (scope:=jT) (N:=["_law_name_here"]) (ps:=["_law_name_here"]) (sp:=X3)
  JS (λvs H Q E h=>by obtain⟨x,rfl,_⟩:=h;rfl)
  (λA outer s H vs Q E hr h=>by
   obtain⟨x,rfl,hx,q⟩:=h;refine⟨_,cU (L0 (aZ kP rfl B.len boot_len (L0 (pv 0) P2)) (L0 (pv 0) P2)),?_⟩;exact⟨_,rfl,_,_,rfl,⟨G7 hx,rfl⟩,_,rfl,(by show 2<=sizeLine;decide),λp hp=>q p hp⟩)
 have bF:Binds X.K (zY c' cM qI qJ jT) ["_law_name_here"] []:=Binds.all λus hl=>match us,hl with|[_],_=>rfl
 exact Iq hc hne F hr bF ζ s σ H _ _ us ws Q I rv rz ⟨a,xs,rfl,rfl,ha,λH' vs Q E sm h=>⟨sm _ _ hf,sm _ _ hc',h⟩,h64,hx,q⟩
def qK(Pt:Addr):Sp:=λvs H Q _=>∃(a:Addr)(xs:List Str),vs=[.ref a]/\H a=some (.lst (xs.map V.str))/\xs.length<64/\(∀x∈xs,x.length<=1000)/\Z4 Pt H/\∀(q:Addr)(H':Hp),SameX H H'->Z4 Pt H'->H' q=some (.lst ((L5 xs).map V.str))->Q (.ref q) H'
theorem JU:FnScope ["_law_names"] ["_law_names"] (B6 T4):=by walk_at"sc"
theorem JV{c Pt:Addr}{oc kV doc pm ct:Value}{od an:Option Addr}{osl:Array (Option Value)}(lk:K.lookup f=some ⟨oc,od,.func (fnOf "_law_in_order" "_law_in_order" (R5 T4) (O4 T4) (B6 T4) .none kV doc pm an (.ref c) ct),osl⟩)
  (hcd:codeIn K (.ref c) "_law_in_order"=true) (B:Blt mg) (hC:CodeHd base c Pt) (hB:BM mg base):
  FnOk P w K mg base C6 4 f (fnOf "_law_in_order" "_law_in_order" (R5 T4) (O4 T4) (B6 T4) .none kV doc pm an (.ref c) ct) ["_law_names"] (qK Pt):=by
 refine kY lk hcd JU (λvs H Q E h=>?_) (λA outer s H vs Q E hr h=>?_)
 ·obtain⟨a,xs,rfl,_⟩:=h
  rfl
 obtain⟨a,xs,rfl,ha,h64,hx,tab,q⟩:=h;have hu:=F1 hr
 suffices key:∃t,PSs (K1 C6 P w K mg base ["_law_names"] "_law_in_order" (B6 T4) f (.ref c) A outer s H E).nox (O4 T4) t/\t {nx:=λ_ H'=>Q .non H',rt:=Q} (L2.start ["_law_names"] [.ref a]) H by
  obtain⟨t,ht,hq⟩:=key;exact⟨t,ht.nox,hq⟩
 refine⟨_,Z6 (Z7 (uX (JT B rfl (λ_ _ z=>z) hr) rfl B.sorted PyProof.Rows.boot_sorted (L0 (pv 0) P2) (sW (Iw (q:=cM) rfl rfl hC hB rfl) sV))),?_⟩;refine⟨_,rfl,tab,λfl c' H1 sx1 hf hc' tab1=>?_⟩;refine⟨fl,c',a,xs,rfl,rfl,hf,hc',?_,h64,hx,λq' H2 sm2 hq'=>q q' H2 (sx1.trans (Same.x sm2)) (tab1.mono sm2) hq'⟩;exact SqL.of (sx1 _ _ ha (λ_ z=>by cases z))
end
end K04
namespace K04
open PySem PySem.W L2 Rg
section
variable{P:Program}{w:World}{K:Frag}{mg:Str->Option Value}{base:Heap}{f:Addr}{fd:FuncData}
mutual
theorem Rep.monoX{H H':Hp}(e:SameX H H'):∀{t:Th}{v:V},Rep H t v->Rep H' t v
 |.num _,_,h=>h
 |.word _,_,h=>h
 |.row l,_,h=>by
  obtain⟨a,xs,h1,h2,h3⟩:=(h:∃a xs,_=V.ref a/\H a=some (.lst xs)/\RepR H l xs);exact⟨a,xs,h1,e _ _ h2 (λ_ z=>by cases z),RepR.monoX e h3⟩
 |.dic l,_,h=>by
  obtain⟨a,kvs,h1,h2,h3⟩:=(h:∃a kvs,_=V.ref a/\H a=some (.dK kvs)/\RepD H l kvs);exact⟨a,kvs,h1,e _ _ h2 (λ_ z=>by cases z),RepD.monoX e h3⟩
theorem RepR.monoX{H H':Hp}(e:SameX H H'):∀{l:Ts}{xs:List V},RepR H l xs->RepR H' l xs
 |.nil,_,h=>h
 |.cons _ t r,_,h=>by
  obtain⟨y,ys,h1,h2,h3⟩:=(h:∃y ys,_=y::ys/\Rep H t y/\RepR H r ys);exact⟨y,ys,h1,Rep.monoX e h2,RepR.monoX e h3⟩
theorem RepD.monoX{H H':Hp}(e:SameX H H'):∀{l:Ts}{kvs:List (B1×V)},RepD H l kvs->RepD H' l kvs
 |.nil,_,h=>h
 |.cons _ t r,_,h=>by
  obtain⟨y,ys,h1,h2,h3⟩:=(h:∃y ys,_=(Sum.inr _,y)::ys/\Rep H t y/\RepD H r ys);exact⟨y,ys,h1,Rep.monoX e h2,RepD.monoX e h3⟩
end
structure Bd(L C:Nat)(S:List Nat):Prop where
 asc:∀c∈S,c<128
 ln:S.length<=L
 co:D7 S<=C
theorem Bd.app{L C L' C':Nat}{S T:List Nat}(h:Bd L C S)(h':Bd L' C' T):Bd (L+L') (C+C') (S++T):=
 ⟨λc hc=>(mem_append.mp hc).elim (h.asc c) (h'.asc c),by rw[length_append];exact Nat.add_le_add h.ln h'.ln,by rw[V3];exact Nat.add_le_add h.co h'.co⟩
theorem Bd.mono{L C L' C':Nat}{S:List Nat}(h:Bd L C S)(h1:L<=L')(h2:C<=C'):Bd L' C' S:=⟨h.asc,le_trans h.ln h1,le_trans h.co h2⟩
theorem jU{L C:Nat}:∀{ws:List Str},(∀w∈ws,Bd L C w.cps.toList)->Bd (ws.length*(L+2)) (ws.length*C) (J6 44 32 ws)
 |[],_=>⟨λc hc=>(by cases hc),zero_le _,zero_le _⟩
 |[w],h=>(h w mem_cons_self).mono (by show L<=1*(L+2);omega) (by show C<=1*C;omega)
 |w::v::r,h=>by
  have ih:=jU (ws:=v::r) λx hx=>h x (mem_cons_of_mem _ hx)
  have hs:Bd 2 0 [44,32]:=⟨!3,!3,!3⟩;have:=(h w mem_cons_self).app (hs.app ih);refine Bd.mono (L:=L+(2+(v::r).length*(L+2))) (C:=C+(0+(v::r).length*C)) this ?_ ?_
  ·show _<=((v::r).length+1)*(L+2)
   rw[succ_mul];omega
  ·show _<=((v::r).length+1)*C
   rw[succ_mul];omega
theorem eZ:(", " : Str)=⟨#[44,32]⟩:=by decide +kernel
theorem qL(ws:List Str):(Txt.join ", " ws).cps.toList=J6 44 32 ws:=by
 show(Builtin.Str.glued ", " ws).cps.toList=_;rw[StrLaws.glued_eq_join,eZ,iN]
theorem jV{x:Str}(h:C7 x=true):Bd 8 0 x.cps.toList:=by
 have h1:=V0 h;have h8:x.length<=8:=by
  unfold C7 at h;simp only[Bool.and_eq_true,decide_eq_true_eq]at h;exact h.1.2
 have hl:∀c∈x.cps.toList,97<=c/\c<=122:=λc hc=>by
  have:=h1.2 c hc;unfold K0 at this;simpa using this
 refine⟨λc hc=>by have:=hl c hc;omega,by rw[←A8];exact h8,?_⟩;unfold D7;rw[List.count_eq_zero_of_not_mem λhm=>by have:=hl 58 hm;omega];exact le_refl _
theorem JW{i:Int}(h:i.natAbs<10^60):Bd 61 0 (nT i).cps.toList:=by
 have h1:=yL (mZ h);have hl:∀c∈(nT i).cps.toList,c<=57:=λc hc=>by
  rcases h1.2 c hc with z|z
  ·unfold E1 at z
   simp at z;omega
  ·omega
 refine⟨λc hc=>by have:=hl c hc;omega,by rw[←A8];exact(iG h).2.1,?_⟩;unfold D7;rw[List.count_eq_zero_of_not_mem λhm=>by have:=hl 58 hm;omega];exact le_refl _
theorem qM{L:Nat}:∀{ws:List Str},(∀w∈ws,w.length<=L)->(ws.map (·.length)).sum<=ws.length*L
 |[],_=>zero_le _
 |w::r,h=>by
  have h1:=h w mem_cons_self;have h2:=qM λx hx=>h x (mem_cons_of_mem _ hx)
  show w.length+(r.map (·.length)).sum<=(r.length+1)*L;rw[succ_mul];omega
theorem Bj{L C:Nat}{o c:Str}{ws:List Str}(ho:Bd 1 0 o.cps.toList)(hc:Bd 1 0 c.cps.toList)(h3:ws.length<=3)(h:∀w∈ws,Bd L C w.cps.toList):Bd (3*L+8) (3*C) (o++Txt.join ", " ws++c).cps.toList:=by
 rw[PyProof.Rows.cps_toList_append,PyProof.Rows.cps_toList_append,qL];refine((ho.app (jU h)).app hc).mono ?_ ?_
 ·have:=mul_le_mul_right (L+2) h3
  omega
 ·have:=mul_le_mul_right C h3
  omega
def LB:Nat->Nat
 |0=>61
 |d+1=>3*LB d+40
def CB:Nat->Nat
 |0=>0
 |d+1=>3*CB d+3
theorem Bk(d:Nat):61<=LB d:=by
 induction d with
 |zero=>exact le_refl _
 |succ d ih=>show 61<=3*LB d+40;omega
def fA(Pt:Addr)(d:Nat):Sp:=λvs H Q _=>∃(t:Th)(v:V),vs=[v]/\Rep H t v/\TL d t/\Z4 Pt H/\∀(z:Str)(H':Hp),SameX H H'->Z4 Pt H'->Bd (LB d) (CB d) z.cps.toList->Q (.str z) H'
def Bl(Pt:Addr):Nat->Sp
 |0=>λ_ _ _ _=>False
 |d+1=>fA Pt d
theorem Bm:FnScope ["_law_thing_here","_law_names"] ["_law_thing_here"] (B6 cF):=by walk_at"sc"
theorem qN{Pt:Addr}{d:Nat}(hd:d<=2)(F:Fun K "_law_text" "_law_text" cF f fd)(B:Blt mg)(h_l_in_order:D8 P w K mg base "_law_in_order" 4 ["_law_names"] (qK Pt))(h_l_text:D8 P w K mg base "_law_text" (d+5) ["_law_thing_here"] (Bl Pt d)):FnOk P w K mg base C6 (d+6) f fd ["_law_thing_here"] (fA Pt d):=by
 refine F.ok Bm (by walk_at"ln") (λcdv A outer s H vs Q E hr h=>?_);obtain⟨t,v,rfl,rep,ht,tab,q⟩:=h;have hu:=F1 hr;have nd:=Bm.nd;refine F4 (A4 (B9 (F8 K (E7 (dO K) rfl B.isi boot_isinstance (A0 (qv 0) (A0 (bN (v:=.ty "list") rfl B.list PyProof.Rows.boot_list rfl) A1))) (λ_=>rfl)) (A7 (B3 (A3 (B5 K) (A3 (B5 K) A5 (K4 K PySem.F.plainAttrs_str PySem.F.slot_str_join PySem.F.type_str_join (dS K) A5 (A0 (W3 rfl (.inl rfl) (hX K (qv 0)) (LcStG.ok (sc:=B6 cF) (N:=["_law_thing_here","_law_names"]) (fr:=[]) (by walk_at"s7") rfl rfl) (λ_ _ _ _=>Y0) (λ_ _ _ _=>(D9 h_l_text hr (!1) rfl (A0 (qv 0) A1)))) A1))) A5))) C1)
  (A4 (B9 (F8 K (E7 (dO K) rfl B.isi boot_isinstance (A0 (qv 0) (A0 (bN (v:=.ty "dict") rfl B.dict PyProof.Rows.boot_dict rfl) A1))) (λ_=>rfl)) (A4 (B0 (i:=1) nd rfl (Or.inl rfl) (D9 h_l_in_order hr (!1) rfl (A0 (U4 (Io rfl) rfl B.list PyProof.Rows.boot_list (A0 (qv 0) A1)) A1)))
  (A7 (B3 (A3 (B5 K) (A3 (B5 K) A5 (K4 K PySem.F.plainAttrs_str PySem.F.slot_str_join PySem.F.type_str_join (dS K) A5 (A0 (W3 rfl (.inl rfl) (hX K (qv 1)) (LcStG.ok (sc:=B6 cF) (N:=["_law_thing_here","_law_names"]) (fr:=[("_law_thing_here",0)]) (by walk_at"s7") rfl rfl) (λ_ _ _ _=>Y0) (λ_ _ _ _=>(A3 (B5 K) (A3 (B5 K) (qv 0) A5) (D9 h_l_text hr (!1) rfl (A0 (E4 K hu (qv 1) (qv 0) (λ_ _=>rfl)) A1))))) A1))) A5)))) C1)
  (A7 (B3 (U4 HG rfl B.str boot_str (A0 (qv 0) A1)))))) ?_
 have ety:=rep.ty (K:=K);refine⟨_,rfl,W1 ety (vD _ t) ⟨_,rfl,?_⟩⟩;cases t with
 |num i=>
  obtain rfl:v=.int i:=rep;have ht:i.natAbs<10^60:=by cases d<;>exact ht
  refine C0 ⟨_,rfl,W1 ety (aD _ _) ⟨_,rfl,C0 ⟨_,rfl,.inl ⟨i,rfl,iF ht,q (nT i) H (SameX.refl H) tab ((JW ht).mono (Bk d) (zero_le _))⟩⟩⟩⟩
 |word x=>
  obtain rfl:v=.str x:=rep;have ht:C7 x=true:=by cases d<;>exact ht
  refine C0 ⟨_,rfl,W1 ety (aD _ _) ⟨_,rfl,C0 ⟨_,rfl,.inr ⟨x,rfl,q x H (SameX.refl H) tab ((jV ht).mono (by have:=Bk d;omega) (zero_le _))⟩⟩⟩⟩
 |row l=>
  cases d with
  |zero=>exact absurd ht (by intro z;exact z)
  |succ e=>
  obtain⟨hl3,hT⟩:=(ht:l.len<=3/\∀p∈l.toL,TL e p.2);obtain⟨a,xs,rfl,h2,h3⟩:=(rep:∃a xs,v=V.ref a/\H a=some (.lst xs)/\RepR H l xs);have hxl:=h3.len;have hle:LB e<=223:=by
   have:e<=1:=by omega
   rcases e with _|_|e
   ·decide
   ·decide
   ·omega
  have jn:∀{zs:List Str},zs.length<=3->(∀z∈zs,Bd (LB e) (CB e) z.cps.toList)->(zs.map (·.length)).sum+zs.length<=1048576/\(Txt.join ", " zs).length<=700:=λ{zs} h3 hb=>by
   refine⟨by have:=qM (L:=223) (ws:=zs) λw hw=>(by rw[A8];exact le_trans (hb w hw).ln hle);omega,?_⟩;rw[A8,qL];have h4:=(jU hb).ln;have:=mul_le_mul_right (LB e+2) h3;omega
  refine C8 ⟨rfl,_,rfl,a,rfl,⟨_,SqL.of h2⟩,X6 (gX (xs:=xs)) (λi ys H'=>∃zs:List Str,ys=zs.map V.str/\zs.length=i/\SameX H H'/\Z4 Pt H'/\∀z∈zs,Bd (LB e) (CB e) z.cps.toList) (G7 (!1)) ⟨[],rfl,rfl,SameX.refl H,tab,λz hz=>by cases hz⟩ (λi ys H' hi p=>?_) (λi x ys H1 H2 hi p y=>?_) (λys H' p r hr'=>?_)⟩
  ·obtain⟨zs,rfl,hzl,sx,_⟩:=p
   exact⟨SqL.of (sx _ _ h2 (λ_ z=>by cases z)),by rw[length_map];omega⟩
  ·obtain⟨rfl,hx⟩:=y
   obtain⟨zs,rfl,hzl,sx,tab',hb⟩:=p;obtain⟨c,hc,rc⟩:=h3.at i x hx;have hTc:TL e c:=by
    rw[←mP,getElem?_map]at hc;obtain⟨p,hp,rfl⟩:=Option.map_eq_some_iff.mp hc;exact hT p (mem_of_getElem? hp)
   refine⟨_,rfl,rfl,_,rfl,c,x,rfl,Rep.monoX sx rc,hTc,tab',λz H3 sx3 tab3 hz=>⟨zs++[z],by rw[map_append];rfl,by rw[length_append,hzl];rfl,sx.trans sx3,tab3,λy hy=>?_⟩⟩;rcases mem_append.mp hy with hy|hy
   ·exact hb y hy
   ·rw[mem_singleton.mp hy];exact hz
  ·obtain⟨zs,rfl,hzl,sx,tab',hb⟩:=p
   have hz3:zs.length<=3:=by omega
   have s2:=B2 hr' (.lst (zs.map V.str));have bd:=Bj (o:="[") (c:="]") ⟨!3,!3,!3⟩ ⟨!3,!3,!3⟩ hz3 hb;obtain⟨j1,j2⟩:=jn hz3 hb;refine⟨", ",r,zs,rfl,rfl,SqL.of A6,!0,j1,K3 ?_ (K3 ?_ (q _ _ (sx.trans (Same.x s2)) (tab'.mono s2) (bd.mono ?_ ?_)))⟩
   ·exact G7 (show 1+(Txt.join ", " zs).length<=1000 by omega)
   ·refine G7 (show("["++Txt.join ", " zs:Str).length+1<=1000 from ?_)
    rw[A8,PyProof.Rows.cps_toList_append,length_append,←A8 (Txt.join ", " zs)];show 1+_+1<=1000;omega
   ·show 3*LB e+8<=3*LB e+40
    omega
   ·show 3*CB e<=3*CB e+3
    omega
 |dic l=>
  cases d with
  |zero=>exact absurd ht (by intro z;exact z)
  |succ e=>
  obtain⟨hl3,hnd,hT⟩:=(ht:l.len<=3/\l.keys.Nodup/\∀p∈l.toL,C7 p.1=true/\TL e p.2);obtain⟨a,kvs,rfl,h2,h3⟩:=(rep:∃a kvs,v=V.ref a/\H a=some (.dK kvs)/\RepD H l kvs);have hle:LB e<=223:=by
   rcases e with _|_|e
   ·decide
   ·decide
   ·omega
  have hkn:∀k∈l.keys,C7 k=true:=λk hk=>by
   rw[←vU]at hk;obtain⟨p,hp,rfl⟩:=mem_map.mp hk;exact(hT p hp).1
  have hkl:=Ts.keys_len l;have pm:=gT l.keys;have hsl:(L5 l.keys).length=l.len:=by rw[pm.length_eq,hkl]
  have jn:∀{zs:List Str},zs.length<=3->(∀z∈zs,Bd (LB e+10) (CB e+1) z.cps.toList)->(zs.map (·.length)).sum+zs.length<=1048576/\(Txt.join ", " zs).length<=730:=λ{zs} h3 hb=>by
   refine⟨by have:=qM (L:=233) (ws:=zs) λw hw=>(by rw[A8];exact le_trans (hb w hw).ln (!1));omega,?_⟩;rw[A8,qL];have h4:=(jU hb).ln;have:=mul_le_mul_right (LB e+10+2) h3;omega
  refine C0 ⟨_,rfl,W1 ety (aD _ _) ⟨_,rfl,C8 ⟨_,rfl,a,kvs,l.keys,rfl,h2,h3.keys,λls hls=>⟨ls,l.keys,rfl,A6,!1,λx hx=>jN (hkn x hx),tab.mono (B2 hls _),λr0 H1 sx1 tab1 hr0=>?_⟩⟩⟩⟩;have SX1:SameX H H1:=(Same.x (B2 hls (.lst (l.keys.map V.str)))).trans sx1;clear sx1;refine⟨rfl,_,rfl,r0,rfl,⟨_,SqL.of hr0⟩,X6 (gX (xs:=(L5 l.keys).map V.str)) (λi ys H'=>∃zs:List Str,ys=zs.map V.str/\zs.length=i/\SameX H1 H'/\Z4 Pt H'/\∀z∈zs,Bd (LB e+10) (CB e+1) z.cps.toList) (G7 (by rw[length_map];omega)) ⟨[],rfl,rfl,SameX.refl H1,tab1,λz hz=>by cases hz⟩ (λi ys H' hi p=>?_) (λi x ys H2 H3 hi p y=>?_) (λys H' p r hr'=>?_)⟩
  ·obtain⟨zs,rfl,hzl,sx,_⟩:=p
   exact⟨SqL.of (sx _ _ hr0 (λ_ z=>by cases z)),by rw[length_map];omega⟩
  ·obtain⟨rfl,hx⟩:=y
   obtain⟨zs,rfl,hzl,sx,tab',hb⟩:=p;obtain⟨k,hk,rfl⟩:=mO hx;have hkm:k∈l.keys:=pm.mem_iff.mp (mem_of_getElem? hk);have hc:=lW l hkm;obtain⟨y,hy,ry⟩:=h3.val hc;have hkT:TL e (l.fld k):=by
    have hm:(k,l.fld k)∈l.toL:=by
     rw[←lY l hnd];exact mem_map.mpr ⟨k,hkm,rfl⟩
    exact(hT _ hm).2
   have bk:=jV (hkn k hkm);have hk8:=bk.ln;rw[←A8]at hk8;have SX:=SX1.trans sx;refine⟨_,rfl,rfl,_,rfl,K3 (G7 (show k.length+2<=1000 by omega)) ⟨_,rfl,_,rfl,FZ (SX _ _ h2 (λ_ z=>by cases z)) hy ⟨l.fld k,y,rfl,Rep.monoX SX ry,hkT,tab',λz H4 sx4 tab4 hz=>K3 ?_ ⟨zs++[k++": "++z],by rw[map_append];rfl,by rw[length_append,hzl];rfl,sx.trans sx4,tab4,λy hy=>?_⟩⟩⟩⟩
   ·have hzl:=hz.ln
    rw[←A8]at hzl;refine G7 ?_;rw[A8,PyProof.Rows.cps_toList_append,length_append,←A8];show k.length+2+z.length<=1000;omega
   ·rcases mem_append.mp hy with hy|hy
    ·exact hb y hy
    ·rw[mem_singleton.mp hy,PyProof.Rows.cps_toList_append,PyProof.Rows.cps_toList_append]
     have h2:Bd 2 1 (": " : Str).cps.toList:=⟨!3,!3,!3⟩;exact((bk.app h2).app hz).mono (!1) (!1)
  ·obtain⟨zs,rfl,hzl,sx,tab',hb⟩:=p
   rw[length_map]at hzl;have hz3:zs.length<=3:=by omega
   have s2:=B2 hr' (.lst (zs.map V.str));have bd:=Bj (o:="{") (c:="}") ⟨!3,!3,!3⟩ ⟨!3,!3,!3⟩ hz3 hb;obtain⟨j1,j2⟩:=jn hz3 hb;refine⟨", ",r,zs,rfl,rfl,SqL.of A6,!0,j1,K3 ?_ (K3 ?_ (q _ _ ((SX1.trans sx).trans (Same.x s2)) (tab'.mono s2) (bd.mono ?_ ?_)))⟩
   ·exact G7 (show 1+(Txt.join ", " zs).length<=1000 by omega)
   ·refine G7 (show("{"++Txt.join ", " zs:Str).length+1<=1000 from ?_)
    rw[A8,PyProof.Rows.cps_toList_append,length_append,←A8 (Txt.join ", " zs)];show 1+_+1<=1000;omega
   ·show 3*(LB e+10)+8<=3*LB e+40
    omega
   ·show 3*(CB e+1)<=3*CB e+3
    omega
theorem JX{Pt:Addr}:FnOk P w K mg base C6 5 f fd ["_law_thing_here"] (Bl Pt 0):=⟨λvs H Q E h=>h.elim,λA outer s H args us vs Q E _ _ _ _ h=>h.elim⟩
theorem JY{Pt:Addr}(F:Fun K "_law_text" "_law_text" cF f fd)(B:Blt mg)(bF:Binds K fd ["_law_thing_here"] [])(kF:keepIn K (.ref f)=true)(mF:mg "_law_text"=some (.ref f))(h_l_in_order:D8 P w K mg base "_law_in_order" 4 ["_law_names"] (qK Pt)):FnOk P w K mg base C6 8 f fd ["_law_thing_here"] (fA Pt 2):=
 have t0:=qN (d:=0) (!3) F B h_l_in_order ⟨f,fd,JX,bF,kF,mF⟩;have t1:=qN (d:=1) (!3) F B h_l_in_order ⟨f,fd,t0,bF,kF,mF⟩
 qN (d:=2) (!3) F B h_l_in_order ⟨f,fd,t1,bF,kF,mF⟩
end
end K04
namespace K04
open PySem L2 Rg
section
variable{P:Program}{w:World}{K:Frag}{mg:Str->Option Value}{base:Heap}{f:Addr}{fd:FuncData}
theorem JZ:FnScope ["_law_word"] ["_law_word"] (B6 jF):=by walk_at"sc"
theorem Ka(F:Fun K "_law_is_name" "_law_is_name" jF f fd)(B:Blt mg):FnOk P w K mg base C6 1 f fd ["_law_word"] cH:=by
 refine F.ok JZ (by walk_at"ln") (λcdv A outer s H vs Q E hr h=>?_);obtain⟨z,rfl,hz,hl,q⟩:=h;have hu:=F1 hr;refine F4 (A4 (B9 (P3 (gZ U6 U6 A2 (E7 (L8 K) rfl B.len boot_len (A0 (qv 0) A1)) A2 rfl)) (A7 (B3 N3)) C1)
  (A7 (B3 (E7 (dP rfl) rfl B.all PyProof.Rows.boot_all (A0 (W3 rfl (.inl rfl) (bU K (qv 0)) (LcStG.ok (sc:=B6 jF) (N:=["_law_word"]) (fr:=[]) (by walk_at"s7") rfl rfl) (λ_ _ _ _=>Y0) (λ_ _ _ _=>(R7 Q6 (qv 0) A5 rfl))) A1))))) ?_
 refine⟨_,rfl,N9 (le_of_lt (E8 _ hl)) ⟨_,_,rfl,rfl,_,rfl,?_⟩⟩;have hlen:z.cps.size=z.length:=rfl;by_cases h1:(1:Int)<=(z.length:Nat)
 ·refine F2 (decide_eq_true h1) ⟨_,_,rfl,rfl,_,rfl,?_⟩
  by_cases h2:((z.length:Nat):Int)<=8
  ·rw[decide_eq_true h2]
   refine C0 ⟨_,rfl,z,rfl,hz,X6 bV (λi ys H'=>H=H'/\ys=((z.cps.toList.take i).map Y2).map V.bl) (G7 (!1)) ⟨rfl,rfl⟩ (λi ys H' hi y=>?_) (λi x ys H2 H3 hi y w'=>?_) (λys H2 y r hr'=>?_)⟩
   ·obtain⟨rfl,rfl⟩:=y
    exact⟨trivial,by rw[length_map,length_map,length_take];omega⟩
   ·obtain⟨rfl,rfl⟩:=y
    obtain⟨rfl,c,hc,rfl⟩:=w';refine⟨_,rfl,rfl,⟨_,rfl,_,_,rfl,rfl,rfl,?_⟩⟩;rw[wY (hz.at hc),take_succ,show z.cps.toList[i]?=some c from by rw[←hc];simp,map_append,map_append];rfl
   ·obtain⟨rfl,rfl⟩:=y
    refine⟨r,_,rfl,A6,?_⟩;have e:K5 z=((z.cps.toList.take z.cps.size).map Y2).all id:=by
     unfold K5;rw[decide_eq_true (show 1<=z.length by omega),decide_eq_true (show z.length<=8 by omega),take_of_length_le (!2),all_map];rfl
    rw[←e];exact q _ (B2 hr' _)
  ·rw[decide_eq_false h2]
   have e:K5 z=false:=by
    unfold K5;rw[decide_eq_false (show ¬z.length<=8 by omega)];simp
   refine C8 ?_;rw[←e];exact q _ (Same.refl _)
 ·have e:K5 z=false:=by
   unfold K5;rw[decide_eq_false (show ¬1<=z.length by omega)];rfl
  refine G3 (decide_eq_false h1) ⟨_,rfl,C8 ?_⟩;rw[←e];exact q _ (Same.refl _)
theorem Bo:("-0" : Str).cps.toList=[45,48]:=by decide +kernel
theorem Bp{x y:Str}:decide (V.str x=V.str y)=decide (x=y):=by
 rw[Bool.eq_iff_iff,decide_eq_true_iff,decide_eq_true_iff];exact⟨λh=>V.str.inj h,λh=>by rw[h]⟩
theorem Bq:FnScope ["_law_word","_law_figures"] ["_law_word"] (B6 jG):=by walk_at"sc"
theorem Kb(F:Fun K "_law_is_number" "_law_is_number" jG f fd)(B:Blt mg):FnOk P w K mg base C6 1 f fd ["_law_word"] jJ:=by
 refine F.ok Bq (by walk_at"ln") (λcdv A outer s H vs Q E hr h=>?_);obtain⟨z,rfl,hz,hl,q⟩:=h;have hu:=F1 hr;have nd:=Bq.nd;have zl:=le_of_lt (E8 _ hl);refine F4 (A4 (B0 (i:=1) nd rfl (Or.inl rfl) (qv 0))
  (X9 (B9 (D0 J0 (O7 (qv 0) R8 (L7 A2)) A5 rfl) (A7 (B0 (i:=1) nd rfl (Or.inl rfl) (O7 (qv 0) (L7 A2) R8))) C1)
  (A4 (B9 (R9 (W2 (P3 (gZ U6 U6 A2 (E7 (L8 K) rfl B.len boot_len (A0 (qv 1) A1)) A2 rfl)) (X8 (D0 J0 (qv 0) A5 rfl)))) (A7 (B3 N3)) C1)
  (A4 (B9 (R9 (dM (D0 bS (E7 (L8 K) rfl B.len boot_len (A0 (qv 1) A1)) A2 rfl) (hJ (D0 J0 (E4 K hu (qv 1) A2 (λ_ _=>rfl)) A5 rfl)))) (A7 (B3 N3)) C1)
  (A7 (B3 (E7 (dP rfl) rfl B.all PyProof.Rows.boot_all (A0 (W3 rfl (.inl rfl) (bU K (qv 1)) (LcStG.ok (sc:=B6 jG) (N:=["_law_word","_law_figures"]) (fr:=[]) (by walk_at"s7") rfl rfl) (λ_ _ _ _=>Y0) (λ_ _ _ _=>(R7 Q6 (qv 0) A5 rfl))) A1)))))))) ?_
 refine⟨_,rfl,fun σ' H'=>H=H'/\σ'=[some (.str z),some (.str (E2 z))],?_,?_⟩
 ·refine⟨_,rfl,_,rfl,z,rfl,zl,rfl,_,rfl,?_⟩
  show if(decide (V.str (Txt.slice z none (some 1))=V.str "-"))=true then _ else _
  rw[Bp];by_cases hs:Txt.startswith z "-"=true
  ·refine F2 (decide_eq_true ((Ac z).mpr ((U7 z).mp hs))) ⟨_,rfl,_,rfl,z,rfl,zl,rfl,?_⟩
   unfold E2;rw[if_pos hs];rfl
  ·refine G3 (decide_eq_false λh=>hs ((U7 z).mpr ((Ac z).mp h))) ⟨rfl,?_⟩
   unfold E2;rw[if_neg hs];rfl
 ·rintro σ' H' ⟨rfl,rfl⟩
  obtain⟨ha,hfl⟩:=Ai hz;have no:J2 z=false->∀H',Same H H'->Q (.bl false) H':=λe H' sm=>by
   have:=q H' sm
   rwa [e]at this
  have nl:=λh=>(HS (z:=z) h)
  have nm:=λh1 h2 h3=>HR (z:=z) h1 h2 h3
  generalize hg:E2 z=g at ha hfl nl nm ⊢;have gl:=le_of_lt (E8 _ (show g.length<=100000 by omega));refine⟨_,rfl,N9 gl ⟨_,_,rfl,rfl,_,rfl,?_⟩⟩;have fin:(∀h3:g.cps.toList.all E1=true,J2 z=true)->∀r,H r=none->Q (.bl (((g.cps.toList.take g.cps.size).map E1).all id)) (upd H r (.lst (((g.cps.toList.take g.cps.size).map E1).map V.bl))):=λhy r hr'=>by
   have eall:((g.cps.toList.take g.cps.size).map E1).all id=g.cps.toList.all E1:=by rw[take_of_length_le (!2),all_map];rfl
   rw[eall];have sm:=B2 hr' (.lst (((g.cps.toList.take g.cps.size).map E1).map V.bl));cases h3:g.cps.toList.all E1 with
   |false=>
    refine no (Bool.eq_false_iff.mpr λh=>?_) _ sm;have:=(nl h).2.2;rw[h3]at this;cases this
   |true=>
    have:=q _ sm
    rwa [hy h3]at this
  by_cases h1:(1:Int)<=(g.length:Nat)
  ·refine F2 (decide_eq_true h1) ⟨_,_,rfl,rfl,_,rfl,?_⟩
   by_cases h2:((g.length:Nat):Int)<=60
   ·rw[decide_eq_true h2]
    refine C0 ⟨_,rfl,rfl,_,rfl,?_⟩;by_cases h0:z.cps.toList=[45,48]
    ·refine F2 (decide_eq_true (congrArg V.str (Q9 (h0.trans Bo.symm)))) (no (Bool.eq_false_iff.mpr λh=>?_) _ (Same.refl H))
     obtain⟨a1,a2,a3⟩:=nl h;exact((nm a1 a2 a3).mp h).1 h0
    refine G3 (decide_eq_false λh=>h0 (by rw[V.str.inj h,Bo])) ?_;obtain⟨c,r,eg⟩:∃c r,g.cps.toList=c::r:=by
     cases eg:g.cps.toList with
     |nil=>rw[A8,eg]at h1;exact absurd h1 (!3)
     |cons c r=>exact⟨c,r,rfl⟩
    have e0:I0 g.cps.toList 0=some c:=by rw[eg];exact L1 (j:=0) rfl
    have e48:("0" : Str).cps.toList=[48]:=by decide +kernel
    by_cases hh:1<g.length/\g.cps.toList.head?=some 48
    ·have hc:c=48:=by
      have:=hh.2;rw[eg]at this;simpa using this
     subst hc;refine⟨_,rfl,N9 gl ⟨_,_,rfl,rfl,_,rfl,F2 (decide_eq_true (show(1:Int)<(g.length:Nat) by have:=hh.1;omega)) ⟨_,rfl,O6 gl e0 ⟨rfl,_,rfl,F2 (!0) (no (Bool.eq_false_iff.mpr λh=>?_) _ (Same.refl H))⟩⟩⟩⟩;obtain⟨a1,a2,a3⟩:=nl h;exact((nm a1 a2 a3).mp h).2 hh
    have hne:decide ((1:Int)<(g.length:Nat))=true->decide (V.str ⟨#[c]⟩=V.str "0")=false:=λh4=>decide_eq_false λh=>hh ⟨by have:=of_decide_eq_true h4;omega,by
     have this:[c]=("0" : Str).cps.toList:=congrArg (λx:Str=>x.cps.toList) (V.str.inj h);rw[e48]at this;rw[eg,(List.cons.inj this).1];rfl⟩
    refine(λtl=>⟨_,rfl,N9 gl ⟨_,_,rfl,rfl,_,rfl,L3 (λh4=>⟨_,rfl,O6 gl e0 ⟨rfl,_,rfl,G3 (hne h4) tl⟩⟩) (λ_=>C0 tl)⟩⟩) ?_;refine⟨_,rfl,g,rfl,ha,X6 bV (λi ys H'=>H=H'/\ys=((g.cps.toList.take i).map E1).map V.bl) (le_of_lt (E8 _ (show g.cps.size<=100000 from by have:g.cps.size=g.length:=rfl;omega))) ⟨rfl,rfl⟩ (λi ys H' hi y=>?_) (λi x ys H2 H3 hi y w'=>?_) (λys H2 y r hr'=>?_)⟩
    ·obtain⟨rfl,rfl⟩:=y
     exact⟨trivial,by rw[length_map,length_map,length_take];omega⟩
    ·obtain⟨rfl,rfl⟩:=y
     obtain⟨rfl,c,hc,rfl⟩:=w';refine⟨_,rfl,rfl,⟨_,rfl,_,_,rfl,rfl,rfl,?_⟩⟩;rw[mX (ha.at hc),take_succ,show g.cps.toList[i]?=some c from by rw[←hc];simp,map_append,map_append];rfl
    ·obtain⟨rfl,rfl⟩:=y
     refine⟨r,_,rfl,A6,fin (λh3=>(nm (!1) (!1) h3).mpr ⟨h0,hh⟩) r hr'⟩
   ·rw[decide_eq_false h2]
    refine C8 (C8 (no (Bool.eq_false_iff.mpr λh=>?_) _ (Same.refl H)));have:=(nl h).2.1;omega
  ·refine G3 (decide_eq_false h1) ⟨_,rfl,C8 (C8 (no (Bool.eq_false_iff.mpr λh=>?_) _ (Same.refl H)))⟩
   have:=(nl h).1;omega
end
end K04
namespace K04
open PySem L2 Rg
section
variable{P:Program}{w:World}{K:Frag}{mg:Str->Option Value}{base:Heap}{f:Addr}{fd:FuncData}
def MdAt(H:Hp)(a:Addr)(made:List (Nat×Nat)):Prop:=∃vs,H a=some (.lst vs)/\Paired (λv p=>∃t,v=V.ref t/\H t=some (.tup [.int ((p:Nat×Nat).1:Nat),.int (p.2:Nat)])) vs made
theorem MdAt.mono{H H':Hp}{a:Addr}{made:List (Nat×Nat)}(h:MdAt H a made)(e:Same H H'):MdAt H' a made:=by
 obtain⟨vs,h1,h2⟩:=h;exact⟨vs,e _ _ h1,Paired.mapP h2 λ_ _ ⟨t,e1,e2⟩=>⟨t,e1,e _ _ e2⟩⟩
def fB(made:List (Nat×Nat))(w:List Nat):Prop:=∀ds,w=35::(ds++[59])->(∀c∈ds,E1 c=true)->∃k,k<made.length/\ds=dg k
def qO:Sp:=λvs H Q _=>∃(z:Str)(a:Addr)(made:List (Nat×Nat)),vs=[.str z,.ref a]/\Asc z/\z.length<=100000/\MdAt H a made/\made.length<=100000/\fB made z.cps.toList/\
 (C5 made z.cps.toList=none->∀H',Same H H'->Q .non H')/\(∀p,C5 made z.cps.toList=some p->∀t H',Same H H'->H' t=some (.tup [.int (p.1:Nat),.int (p.2:Nat)])->Q (.ref t) H')
theorem Br:FnScope ["_law_word","_law_made"] ["_law_word","_law_made"] (B6 jH):=by walk_at"sc"
theorem Kc(F:Fun K "_law_item" "_law_item" jH f fd)(B:Blt mg)(h_l_is_name:D8 P w K mg base "_law_is_name" 1 ["_law_word"] cH)(h_l_is_number:D8 P w K mg base "_law_is_number" 1 ["_law_word"] jJ):FnOk P w K mg base C6 2 f fd ["_law_word","_law_made"] qO:=by
 refine F.ok Br (by walk_at"ln") (λcdv A outer s H vs Q E hr h=>?_);obtain⟨z,a,made,rfl,hz,hl,hm,hml,hit,q0,q1⟩:=h;have hu:=F1 hr;have nd:=Br.nd;have zl:=le_of_lt (E8 _ hl);have hzl:=A8 z;refine F4 (A4 (B9 (R9 (dM (D0 bS (E7 (L8 K) rfl B.len boot_len (A0 (qv 0) A1)) A2 rfl) (dM (D0 J0 (E4 K hu (qv 0) A2 (λ_ _=>rfl)) A5 rfl) (hJ (D0 J0 (E4 K hu (qv 0) (aH A2) (λ_ _=>rfl)) A5 rfl))))) (A4 (B9 (F8 K (E7 (dP rfl) rfl B.all PyProof.Rows.boot_all (A0 (W3 rfl (.inl rfl) (bU K (O7 (qv 0) (L7 A2) (L7 (aH A2)))) (LcStG.ok (sc:=B6 jH) (N:=["_law_word","_law_made"]) (fr:=[]) (by walk_at"s7") rfl rfl) (λ_ _ _ _=>Y0) (λ_ _ _ _=>(R7 Q6 (qv 0) A5 rfl))) A1)) (λ_=>rfl)) (A7 (B3 (E4 K hu (qv 1) (U4 iD rfl B.int boot_int (A0 (O7 (qv 0) (L7 A2) (L7 (aH A2))) A1)) (λ_ _=>rfl)))) C1)
  (A7 (B3 X7))) C1)
  (A4 (B9 (R9 (W2 (F8 K (D9 h_l_is_name hr (!3) rfl (A0 (qv 0) A1)) (λ_=>rfl)) (X8 (F8 K (D9 h_l_is_number hr (!3) rfl (A0 (qv 0) A1)) (λ_=>rfl))))) (A7 (B3 (bO (A0 A2 (A0 A2 A1))))) C1)
  (A7 (B3 X7)))) ?_
 by_cases hmk:∃ds,ds≠[]/\z.cps.toList=35::(ds++[59])
 ·obtain⟨ds,hds,e⟩:=hmk
  have hlen:z.length=ds.length+2:=by rw[hzl,e,length_cons,length_append];rfl
  have hd1:1<=ds.length:=by cases ds with|nil=>exact absurd rfl hds|cons _ _=>simp
  have e0:I0 z.cps.toList 0=some 35:=by rw[e];exact vZ _ _
  have el:I0 z.cps.toList (-1)=some 59:=by rw[e];exact bA (35::ds) 59
  have hmd:=IA z e;have hsl:(Txt.slice z (some 1) (some (-1))).length=ds.length:=by rw[A8,hmd]
  have hma:Asc (Txt.slice z (some 1) (some (-1))):=N5.mpr λc hc=>N5.mp hz c (by rw[hmd]at hc;rw[e];exact mem_cons_of_mem _ (mem_append_left _ hc))
  refine⟨_,rfl,N9 zl ⟨_,_,rfl,rfl,_,rfl,F2 (decide_eq_true (show(2:Int)<(z.length:Nat) by omega)) ⟨_,rfl,O6 zl e0 ⟨rfl,_,rfl,F2 (!0) ⟨_,rfl,_,rfl,O6 zl el ⟨rfl,_,rfl,F2 (!0) ?_⟩⟩⟩⟩⟩⟩;have nope:¬(∀c∈ds,E1 c=true)->C5 made z.cps.toList=none:=λhn=>by
   have hno:¬∃k,z.cps.toList=B8 k:=λ⟨k,e2⟩=>by
    rw[e]at e2;have e3:=List.append_cancel_right (List.cons.inj e2).2;exact hn λc hc=>all_eq_true.mp (Y4.mpr (O8 k)) c (by rw[←e3];exact hc)
   rw[Z3 made hno,if_neg];intro hw;have:=(eJ hw).2 35 (by rw[e];exact mem_cons_self);omega
  generalize hmz:Txt.slice z (some 1) (some (-1))=m at hmd hsl hma;refine⟨_,rfl,_,rfl,_,rfl,_,rfl,z,rfl,zl,?_⟩;rw[show Txt.slice z (some 1) (some (-1))=m from hmz];refine⟨m,rfl,hma,X6 bV (λi ys H'=>H=H'/\ys=((m.cps.toList.take i).map E1).map V.bl) (le_of_lt (E8 _ (show m.cps.size<=100000 from by have:m.cps.size=m.length:=rfl;omega))) ⟨rfl,rfl⟩ (λi ys H' hi y=>?_) (λi x ys H2 H3 hi y w'=>?_) (λys H2 y r hr'=>?_)⟩
  ·obtain⟨rfl,rfl⟩:=y
   exact⟨trivial,by rw[length_map,length_map,length_take];omega⟩
  ·obtain⟨rfl,rfl⟩:=y
   obtain⟨rfl,c,hc,rfl⟩:=w';refine⟨_,rfl,rfl,⟨_,rfl,_,_,rfl,rfl,rfl,?_⟩⟩;rw[mX (hma.at hc),take_succ,show m.cps.toList[i]?=some c from by rw[←hc];simp,map_append,map_append];rfl
  ·obtain⟨rfl,rfl⟩:=y
   have eall:((m.cps.toList.take m.cps.size).map E1).all id=ds.all E1:=by rw[take_of_length_le (!2),all_map,hmd];rfl
   refine⟨r,_,rfl,A6,_,rfl,?_⟩;rw[eall];have sm:=B2 hr' (.lst (((m.cps.toList.take m.cps.size).map E1).map V.bl));generalize upd H r (.lst (((m.cps.toList.take m.cps.size).map E1).map V.bl))=H3 at sm ⊢;cases h3:ds.all E1 with
   |false=>
    refine C0 (q0 (nope λh=>?_) _ sm);rw[all_eq_true.mpr h]at h3;cases h3
   |true=>
    obtain⟨k,hk,hdk⟩:=hit ds e (all_eq_true.mp h3);obtain⟨hi1,hi2⟩:=Iy (z:=m) (hmd.trans hdk) (!1);obtain⟨vs,hv1,hv2⟩:=hm.mono sm;have hvl:vs.length=made.length:=Paired.length hv2;obtain⟨v,hv⟩:∃v,vs[k]?=some v:=⟨_,getElem?_eq_getElem (!1)⟩
    obtain⟨p,hp,t,rfl,ht⟩:=mU hv2 k v hv;refine C8 ⟨_,rfl,_,rfl,_,rfl,_,rfl,_,rfl,z,rfl,zl,?_⟩;rw[show Txt.slice z (some 1) (some (-1))=m from hmz];refine .inr ⟨m,(k:Int),rfl,hi1,hi2,N2 (SqL.of hv1) (L1 hv) (q1 p ?_ t _ sm ht)⟩;rw[e,hdk,show(35::(dg k++[59]))=B8 k from rfl,aM];exact hp
 ·have hno:¬∃k,z.cps.toList=B8 k:=λ⟨k,e⟩=>hmk ⟨dg k,Aa k,e⟩
  rw[Z3 made hno,O0]at q0 q1;have hne:(2:Int)<(z.length:Nat)->∃(c d:Nat),I0 z.cps.toList 0=some c/\I0 z.cps.toList (-1)=some d/\¬(c=35/\d=59):=λh=>by
   cases e:z.cps.toList with
   |nil=>rw[hzl,e]at h;exact absurd h (!3)
   |cons c r=>
    rcases List.eq_nil_or_concat r with e2|⟨ini,d,e2⟩
    ·rw[hzl,e,e2]at h;exact absurd h (show ¬(2:Int)<((1:Nat):Int) by decide)
    ·rw[List.concat_eq_append]at e2
     subst e2;refine⟨c,d,vZ _ _,bA (c::ini) d,?_⟩;rintro ⟨rfl,rfl⟩;refine hmk ⟨ini,λhi=>?_,e⟩;rw[hzl,e,hi]at h;exact absurd h (show ¬(2:Int)<((2:Nat):Int) by decide)
  have es35:("#" : Str)=⟨#[35]⟩:=by decide +kernel
  have es59:(";" : Str)=⟨#[59]⟩:=by decide +kernel
  have sg:∀{c d:Nat},c≠d->decide (V.str ⟨#[c]⟩=V.str ⟨#[d]⟩)=false:=λhcd=>decide_eq_false λh=>hcd (by
   have:=congrArg (λx:Str=>x.cps.toList) (V.str.inj h);exact(List.cons.inj (show[_]=[_]from this)).1)
  obtain⟨c,d,h1,h2,h3⟩:∃c d:Nat,((2:Int)<(z.length:Nat)->I0 z.cps.toList 0=some c)/\((2:Int)<(z.length:Nat)->I0 z.cps.toList (-1)=some d)/\((2:Int)<(z.length:Nat)->¬(c=35/\d=59)):=by
   by_cases h:(2:Int)<(z.length:Nat)
   ·obtain⟨c,d,h1,h2,h3⟩:=hne h
    exact⟨c,d,λ_=>h1,λ_=>h2,λ_=>h3⟩
   ·exact⟨0,0,λz=>absurd z h,λz=>absurd z h,λz=>absurd z h⟩
  have he:decide ((2:Int)<(z.length:Nat))=true->decide (V.str ⟨#[c]⟩=V.str "#")=true->decide (V.str ⟨#[d]⟩=V.str ";")=false:=λg1 g2=>by
   rw[es59];refine sg λhd=>h3 (of_decide_eq_true g1) ⟨?_,hd⟩
   have:=congrArg (λx:Str=>x.cps.toList) (V.str.inj (of_decide_eq_true g2));rw[es35]at this;exact(List.cons.inj (show[c]=[35]from this)).1
  refine(λtl=>⟨_,rfl,N9 zl ⟨_,_,rfl,rfl,_,rfl,L3 (λh=>⟨_,rfl,O6 zl (h1 (of_decide_eq_true h)) ⟨rfl,_,rfl,L3 (λh'=>⟨_,rfl,_,rfl,O6 zl (h2 (of_decide_eq_true h)) ⟨rfl,_,rfl,G3 (he h h') tl⟩⟩) (λ_=>C0 tl)⟩⟩) (λ_=>C0 tl)⟩⟩) ?_;have yes:C7 z=true∨J2 z=true->∀H',Same H H'->∀t,H' t=none->Q (.ref t) (upd H' t (.tup [.int 1,.int 1])):=λhy H' sm t ht=>q1 (1,1) (if_pos hy) t _ (sm.trans (B2 ht _)) A6
  refine⟨_,rfl,_,rfl,hz,hl,λH1 s1=>⟨_,rfl,?_⟩⟩;cases n1:K5 z with
  |true=>exact C8 (C8 ⟨(by show 2<=sizeLine;decide),λt ht=>yes (.inl n1) H1 s1 t ht⟩)
  |false=>
   refine C0 ⟨_,rfl,_,rfl,hz,hl,λH2 s2=>⟨_,rfl,?_⟩⟩;cases n2:J2 z with
   |true=>exact C8 ⟨(by show 2<=sizeLine;decide),λt ht=>yes (.inr n2) H2 (s1.trans s2) t ht⟩
   |false=>
    refine C0 (q0 (if_neg ?_) _ (s1.trans s2));rintro (h|h)
    ·exact absurd (show K5 z=true from h) (by rw[n1];simp)
    ·rw[n2]at h;cases h
end
end K04
namespace K04
open PySem L2 Rg
section
variable{P:Program}{w:World}{K:Frag}{mg:Str->Option Value}{base:Heap}{f:Addr}{fd:FuncData}
theorem Bs{a b:Nat}{w:Str}:∀{ws:List Str},w∈ws->∃u v,J6 a b ws=u++(w.cps.toList++v)
 |[],h=>by cases h
 |[x],h=>by
  rw[mem_singleton.mp h];exact⟨[],[],by show x.cps.toList=_;simp⟩
 |x::y::r,h=>by
  rcases mem_cons.mp h with rfl|h
  ·exact⟨[],a::b::J6 a b (y::r),rfl⟩
  ·obtain⟨u,v,e⟩:=Bs (a:=a) (b:=b) h
   exact⟨x.cps.toList++a::b::u,v,by show x.cps.toList++a::b::J6 a b (y::r)=_;rw[e];simp⟩
theorem qP{z w:Str}{a b:Nat}(h:w∈Txt.split z ⟨#[a,b]⟩):∃u v,z.cps.toList=u++(w.cps.toList++v):=by
 obtain⟨u,v,e⟩:=Bs (a:=a) (b:=b) h;exact⟨u,v,by rw[←iO a b z,e]⟩
theorem qQ(z y:Str):(Txt.split z y).length<=z.length+2:=(PyProof.Rows.fact_split z y).2
def Bt:Sp:=λvs H Q _=>∃(b:Bool)(z:Str)(a:Addr)(made:List (Nat×Nat)),vs=[.str ⟨#[G1 b]⟩,.str z,.ref a]/\Asc z/\z.length<=90000/\MdAt H a made/\made.length<=100000/\(∀u w v,z.cps.toList=u++(w++v)->fB made w)/\
 (F7 (C5 made) b (O2 z) Str.empty=none->∀H',Same H H'->Q .non H')/\(∀v,F7 (C5 made) b (O2 z) Str.empty=some v->∀t H',Same H H'->H' t=some (.tup [.int ((v.1+1:Nat)),.int ((v.2+1:Nat))])->Q (.ref t) H')
theorem Bu:(": " : Str)=⟨#[58,32]⟩:=by decide +kernel
theorem Bv:FnScope ["_law_sign","_law_inner","_law_made","_law_size","_law_deep","_law_last","_law_items","_law_item_here","_law_pair","_law_told"] ["_law_sign","_law_inner","_law_made"] (B6 pT):=by walk_at"sc"
theorem Kd(F:Fun K "_law_closed" "_law_closed" pT f fd)(B:Blt mg)(h_l_is_name:D8 P w K mg base "_law_is_name" 1 ["_law_word"] cH)(h_l_item:D8 P w K mg base "_law_item" 2 ["_law_word","_law_made"] qO):FnOk P w K mg base C6 3 f fd ["_law_sign","_law_inner","_law_made"] Bt:=by
 refine F.ok Bv (by walk_at"ln") (λcdv A outer s H vs Q E hr h=>?_);obtain⟨b,z,a,made,rfl,hz,hl,hm,hml,hit,q0,q1⟩:=h;have hu:=F1 hr;have nd:=Bv.nd;have zl:=le_of_lt (E8 _ (show z.length<=100000 by omega));have hsm:=qQ z ⟨#[44,32]⟩;refine F4 (A4 (B0 (i:=3) nd rfl (Or.inl rfl) A2)
  (A4 (B0 (i:=4) nd rfl (Or.inl rfl) A2)
  (A4 (B0 (i:=5) nd rfl (Or.inl rfl) A5)
  (A4 (B0 (i:=6) nd rfl (Or.inl rfl) (K4 K PySem.F.plainAttrs_str PySem.F.slot_str_split PySem.F.type_str_split mW (qv 1) (A0 A5 A1)))
  (X9 (B9 (D0 J0 (qv 1) A5 rfl) (A7 (B0 (i:=6) nd rfl (Or.inl rfl) (G4 A1))) C1)
  (A4 (iA PassesOwn.never rfl (hX K (qv 6)) (bP (i:=7) nd rfl (Or.inl rfl)) (X9 (B9 (D0 J0 (qv 0) A5 rfl) (A4 (B0 (i:=8) nd rfl (Or.inl rfl) (K4 K PySem.F.plainAttrs_str PySem.F.slot_str_split PySem.F.type_str_split mW (qv 7) (A0 A5 A1)))
  (A4 (B9 (R9 (W2 (D0 (Gw hr) (E7 (L8 K) rfl B.len boot_len (A0 (qv 8) A1)) A2 rfl) (X8 (P3 (F8 K (D9 h_l_is_name hr (!3) rfl (A0 (E4 K hu (qv 8) A2 (λ_ _=>rfl)) A1)) (λ_=>rfl)))))) (A7 (B3 X7)) C1)
  (A4 (B9 (D0 (zH hr) (bO (A0 (E7 (L8 K) rfl B.len boot_len (A0 (E4 K hu (qv 8) A2 (λ_ _=>rfl)) A1)) (A0 (E4 K hu (qv 8) A2 (λ_ _=>rfl)) A1))) (bO (A0 (E7 (L8 K) rfl B.len boot_len (A0 (qv 5) A1)) (A0 (qv 5) A1))) rfl) (A7 (B3 X7)) C1)
  (A4 (B0 (i:=5) nd rfl (Or.inl rfl) (E4 K hu (qv 8) A2 (λ_ _=>rfl)))
  (A7 (B0 (i:=7) nd rfl (Or.inl rfl) (E4 K hu (qv 8) A2 (λ_ _=>rfl)))))))) C1)
  (A4 (B0 (i:=9) nd rfl (Or.inl rfl) (D9 h_l_item hr (!3) rfl (A0 (qv 7) (A0 (qv 2) A1))))
  (A4 (B9 (D0 wL (qv 9) X7 rfl) (A7 (B3 X7)) C1)
  (A4 (B0 (i:=3) nd rfl (Or.inl rfl) (A3 (B5 K) (qv 3) (E4 K hu (qv 9) A2 (λ_ _=>rfl))))
  (A7 (B0 (i:=4) nd rfl (Or.inl rfl) (E7 (GA rfl) rfl B.max PyProof.Rows.boot_max (A0 (qv 4) (A0 (E4 K hu (qv 9) A2 (λ_ _=>rfl)) A1))))))))))
  (A7 (B3 (bO (A0 (qv 3) (A0 (A3 (B5 K) (qv 4) A2) A1))))))))))) ?_
 refine⟨_,rfl,rfl,z,", ",rfl,rfl,!0,zl,by rw[eZ];exact le_of_lt (E8 _ (!1)),λt0 ht0=>?_⟩;rw[eZ];refine⟨fun σ H'=>∃it:Addr,σ=[some (.str ⟨#[G1 b]⟩),some (.str z),some (.ref a),some (.int 1),some (.int 0),some (.str ""),some (.ref it),none,none,none]/\Same H H'/\H' it=some (.lst ((O2 z).map V.str)),?_,?_⟩
 ·have s1:=B2 ht0 (.lst ((Txt.split z ⟨#[44,32]⟩).map V.str))
  have hi1:upd H t0 (.lst ((Txt.split z ⟨#[44,32]⟩).map V.str)) t0=some (.lst ((Txt.split z ⟨#[44,32]⟩).map V.str)):=A6;generalize upd H t0 (.lst ((Txt.split z ⟨#[44,32]⟩).map V.str))=H1 at s1 hi1 ⊢;refine⟨_,rfl,rfl,_,rfl,?_⟩;by_cases hz0:z.cps.toList=[]
  ·have e:z="":=Q9 (hz0.trans (!0))
   refine F2 (decide_eq_true (congrArg V.str e)) ⟨zero_le _,λt1 ht1=>⟨t1,rfl,s1.trans (B2 ht1 _),?_⟩⟩;unfold O2;rw[if_pos hz0];exact A6
  ·refine G3 (decide_eq_false λh=>hz0 (by rw[V.str.inj h];decide +kernel)) ⟨t0,rfl,s1,?_⟩
   unfold O2;rw[if_neg hz0];exact hi1
 ·rintro _ H1 ⟨it,rfl,s1,hi1⟩
  have hits:∀y∈O2 z,Asc y/\y.length<=90000/\∀u w v,y.cps.toList=u++(w++v)->fB made w:=λy hy=>by
   unfold O2 at hy;split at hy
   ·cases hy
   ·obtain⟨u,v,e⟩:=qP hy
    refine⟨N5.mpr λc hc=>N5.mp hz c (by rw[e];simp[hc]),?_,λu' w v' e'=>hit (u++u') w (v'++v) (by rw[e,e'];simp)⟩;have:=congrArg length e;rw[←A8,length_append,length_append,←A8]at this;omega
  have hil:(O2 z).length<=90002:=by
   unfold O2;split
   ·exact zero_le _
   ·show(Txt.split z ⟨#[44,32]⟩).length<=_
    omega
  generalize O2 z=its at hi1 hits hil q0 q1 ⊢;have nil0:Str.empty=("" : Str):=by decide +kernel
  rw[nil0]at q0 q1;refine⟨_,rfl,it,rfl,⟨_,SqL.of hi1⟩,gU (gX (xs:=its.map V.str)) (λi σ H'=>∃(s d:Nat)(last:Str)(x7 x8 x9:Option V),σ=[some (.str ⟨#[G1 b]⟩),some (.str z),some (.ref a),some (.int (s:Nat)),some (.int (d:Nat)),some (.str last),some (.ref it),x7,x8,x9]/\Same H1 H'/\last.length<=1000/\1<=s/\F7 (C5 made) b its ""=(F7 (C5 made) b (its.drop i) last).map λq=>(s-1+q.1,max d q.2))
   ⟨1,0,"",none,none,none,rfl,Same.refl H1,!0,le_refl _,?_⟩ (λi σ H' hi p=>?_) (λi x σ H' H3 hi p y=>?_) (fun σ H' p=>?_)⟩
  ·rw[drop_zero]
   cases F7 (C5 made) b its "" with
   |none=>rfl
   |some v=>show some v=some (1-1+v.1,max 0 v.2);simp
  ·obtain⟨_,_,_,_,_,_,_,s2,_⟩:=p
   exact SqL.of (s2 _ _ hi1)
  ·obtain⟨rfl,hx⟩:=y
   obtain⟨s,d,last,x7,x8,x9,rfl,s2,hlast,hs1,her⟩:=p;rw[length_map]at hi;obtain⟨y,hy,rfl⟩:=mO hx;obtain⟨ya,yl,yit⟩:=hits y (mem_of_getElem? hy);have hdr:its.drop i=y::its.drop (i+1):=by
    rw[drop_eq_getElem_cons hi];have:=(List.getElem?_eq_some_iff.mp hy).2;rw[this]
   rw[hdr]at her;have S2:=s1.trans s2;refine⟨fun σ H4=>∃(x last':Str)(x8':Option V),σ=[some (.str ⟨#[G1 b]⟩),some (.str z),some (.ref a),some (.int (s:Nat)),some (.int (d:Nat)),some (.str last'),some (.ref it),some (.str x),x8',x9]/\Same H1 H4/\last'.length<=1000/\Asc x/\x.length<=90000/\fB made x.cps.toList/\F7 (C5 made) b its ""=((C5 made x.cps.toList).bind λp=>(F7 (C5 made) b (its.drop (i+1)) last').map λq=>(p.1+q.1,max p.2 q.2)).map λq=>(s-1+q.1,max d q.2),?_,?_⟩
   ·refine⟨_,rfl,rfl,_,rfl,?_⟩
    cases b with
    |false=>
     refine G3 (!0) ⟨y,last,x8,rfl,s2,hlast,ya,yl,yit [] _ [] (!2),?_⟩;rw[her];rfl
    |true=>
     have ym:=qQ y ⟨#[58,32]⟩;refine F2 (!0) ⟨_,rfl,rfl,y,": ",rfl,rfl,!0,le_of_lt (E8 _ (!1)),by rw[Bu];exact le_of_lt (E8 _ (!1)),λpr hpr=>?_⟩;rw[Bu];have hpm:∀w∈Txt.split y ⟨#[58,32]⟩,Asc w/\w.length<=90000/\fB made w.cps.toList:=λw hw=>by
      obtain⟨u,v,e⟩:=qP hw;refine⟨N5.mpr λc hc=>N5.mp ya c (by rw[e];simp[hc]),?_,yit u _ v e⟩;have:=congrArg length e;rw[←A8,length_append,length_append,←A8]at this;omega
     have nsp:∀{v},F7 (C5 made) true (y::its.drop (i+1)) last=some v->∃k x,Txt.split y ⟨#[58,32]⟩=[k,x]:=λh=>yP h
     have isp:∀{k x},Txt.split y ⟨#[58,32]⟩=[k,x]->F7 (C5 made) true (y::its.drop (i+1)) last=if C7 k=true/\C3 last k=true then(C5 made x.cps.toList).bind λp=>(F7 (C5 made) true (its.drop (i+1)) k).map λq=>(p.1+q.1,max p.2 q.2)else none:=λh=>oA h
     generalize Txt.split y ⟨#[58,32]⟩=ws at hpm nsp isp ym hpr ⊢;have s3:=B2 hpr (.lst (ws.map V.str));have hp3:upd H3 pr (.lst (ws.map V.str)) pr=some (.lst (ws.map V.str)):=A6;generalize upd H3 pr (.lst (ws.map V.str))=H6 at s3 hp3 ⊢;have bad:F7 (C5 made) true (y::its.drop (i+1)) last=none->∀H5,Same H6 H5->Q .non H5:=λhn H5 s5=>q0 (by rw[her,hn];rfl) H5 (S2.trans (s3.trans s5))
     refine⟨_,rfl,bL (SqL.of hp3) (Gc rfl ⟨_,rfl,?_⟩)⟩;by_cases h2:ws.length=2
     ·obtain⟨k,x,rfl⟩:∃k x,ws=[k,x]:=by
       match ws,h2 with
       |[k,x],_=>exact⟨k,x,rfl⟩
      obtain⟨ka,kl,_⟩:=hpm k (!2);obtain⟨xa,xl,xi⟩:=hpm x (!2);have isp:=isp rfl;refine G3 (by rw[length_map];rfl) ⟨_,rfl,N2 (SqL.of hp3) (v:=.str k) (L1 (j:=0) rfl) ⟨k,rfl,ka,!1,λH4 s4=>⟨_,rfl,?_⟩⟩⟩;rw[show K5 k=C7 k from rfl];cases hk:C7 k with
      |false=>exact C8 (bad (by rw[isp,if_neg (by rw[hk];simp)]) H4 s4)
      |true=>
       have hk8:k.length<=1000:=jN hk;have hp4:=s4 _ _ hp3;refine C0 ⟨_,rfl,N2 (SqL.of hp4) (v:=.str k) (L1 (j:=0) rfl) (N9 (G7 hk8) ⟨_,rfl,N2 (SqL.of hp4) (v:=.str k) (L1 (j:=0) rfl) ⟨(by show 2<=sizeLine;decide),λa1 n1=>⟨_,rfl,N9 (G7 hlast) ⟨_,rfl,(by show 2<=sizeLine;decide),λa2 n2=>⟨a1,a2,k,last,rfl,rfl,J9 (Ne.symm (nx n2)) A6,A6,_,rfl,?_⟩⟩⟩⟩⟩)⟩;have s5:=s4.trans ((B2 n1 (.tup [.int (k.length:Nat),.str k])).trans (B2 n2 (.tup [.int (last.length:Nat),.str last])));have hp5:upd (upd H4 a1 (.tup [.int (k.length:Nat),.str k])) a2 (.tup [.int (last.length:Nat),.str last]) pr=some (.lst (([k,x]:List Str).map V.str)):=s5 _ _ hp3;generalize upd (upd H4 a1 (.tup [.int (k.length:Nat),.str k])) a2 (.tup [.int (last.length:Nat),.str last])=H5 at s5 hp5 ⊢;cases hlt:C3 last k with
       |false=>exact C8 (bad (by rw[isp,if_neg (by rw[hlt];simp)]) H5 s5)
       |true=>
        refine C0 ⟨_,rfl,N2 (SqL.of hp5) (v:=.str k) (L1 (j:=0) rfl) ⟨_,rfl,N2 (SqL.of hp5) (v:=.str x) (L1 (j:=1) rfl) ⟨x,k,_,rfl,s2.trans (s3.trans s5),hk8,xa,xl,xi,?_⟩⟩⟩;rw[her,isp,if_pos ⟨hk,hlt⟩]
     ·refine F2 ?_ (C8 (bad ?_ H6 (Same.refl _)))
      ·rw[length_map,decide_eq_false (λh=>h2 (by have:=V.int.inj h;omega))]
       rfl
      ·cases hn:F7 (C5 made) true (y::its.drop (i+1)) last with
       |none=>rfl
       |some v=>
        obtain⟨k,x,e⟩:=nsp hn;exact absurd (by rw[e];rfl) h2
   ·rintro _ H4 ⟨x,last',x8',rfl,s4,hlast',xa,xl,xi,her4⟩
    refine⟨_,rfl,_,rfl,x,a,made,rfl,xa,!1,hm.mono (s1.trans s4),hml,xi,λhn H5 s5=>?_,λp hp t H5 s5 ht=>?_⟩
    ·refine⟨_,rfl,rfl,_,rfl,F2 rfl (q0 ?_ H5 (s1.trans (s4.trans s5)))⟩
     rw[her4,hn];rfl
    ·rw[hp]at her4
     refine⟨_,rfl,rfl,_,rfl,G3 rfl ⟨_,rfl,_,rfl,dL ht (v:=.int (p.1:Nat)) rfl (J3 ⟨_,rfl,_,rfl,dL ht (v:=.int (p.2:Nat)) rfl ⟨_,_,rfl,?_⟩⟩)⟩⟩;refine⟨s+p.1,max d p.2,last',some (.str x),x8',some (.ref t),?_,s4.trans s5,hlast',!1,?_⟩
     ·rw[show((s:Nat):Int)+((p.1:Nat):Int)=((s+p.1:Nat):Int) by omega,show(if((p.2:Nat):Int)>((d:Nat):Int)then((p.2:Nat):Int)else((d:Nat):Int))=((max d p.2:Nat):Int) by split<;>omega]
      rfl
     ·rw[her4]
      show((F7 (C5 made) b (its.drop (i+1)) last').map _).map _=_;rw[Option.map_map]
      congr 1
      funext q
      show(s-1+(p.1+q.1),max d (max p.2 q.2))=(s+p.1-1+q.1,max (max d p.2) q.2);rw[show s-1+(p.1+q.1)=s+p.1-1+q.1 by omega,Nat.max_assoc]
  ·obtain⟨s,d,last,x7,x8,x9,rfl,s2,hlast,hs1,her⟩:=p
   rw[length_map,drop_of_length_le (le_refl _)]at her;refine⟨_,rfl,_,rfl,J3 ⟨(by show 2<=sizeLine;decide),λt ht=>q1 (s-1+0,max d 0) her t _ (s1.trans (s2.trans (B2 ht _))) ?_⟩⟩;rw[A6];show some (HO.tup [.int (s:Nat),.int ((d:Nat)+1)])=some (.tup [.int ((s-1+0+1:Nat)),.int ((max d 0+1:Nat))]);rw[show s-1+0+1=s by omega,show max d 0=d by omega];rfl
end
end K04
namespace K04
open PySem L2 Rg
section
variable{P:Program}{w:World}{K:Frag}{mg:Str->Option Value}{base:Heap}{f:Addr}{fd:FuncData}
def Bw:Sp:=λvs H Q _=>∃z:Str,vs=[.str z]/\TxOk z/\∀(b:Bool) H',(b=true↔W8 z.cps.toList)->Same H H'->Q (.bl b) H'
theorem jW(x:Str)(c:Nat){y:Str}(e:y=⟨#[c]⟩):Txt.contains x y=decide (c∈x.cps.toList):=by rw[e];exact Ab x c
theorem Ke{c:Nat}(h:c<128):Txt.contains "[{" ⟨#[c]⟩=G9 c:=by
 have:∀c<128,Txt.contains "[{" ⟨#[c]⟩=G9 c:=by decide +kernel
 exact this c h
theorem MdAt.snoc{H:Hp}{a t:Addr}{made:List (Nat×Nat)}{p:Nat×Nat}(h:MdAt H a made)(ht:H t=some (.tup [.int (p.1:Nat),.int (p.2:Nat)])):∃vs,H a=some (.lst vs)/\vs.length=made.length/\MdAt (upd H a (.lst (vs++[.ref t]))) a (made++[p]):=by
 obtain⟨vs,h1,h2⟩:=h;refine⟨vs,h1,Paired.length h2,vs++[.ref t],A6,?_⟩;have t1:TupsStay H (upd H a (.lst (vs++[.ref t]))):=TupsStay.lst h1;have key:∀{G:Hp}{vs:List V}{ms:List (Nat×Nat)},TupsStay H G->Paired (λv p=>∃t,v=V.ref t/\H t=some (.tup [.int ((p:Nat×Nat).1:Nat),.int (p.2:Nat)])) vs ms->Paired (λv p=>∃t,v=V.ref t/\G t=some (.tup [.int ((p:Nat×Nat).1:Nat),.int (p.2:Nat)])) (vs++[.ref t]) (ms++[p]):=λ{G vs ms} st h=>by
  induction h with
  |nil=>exact .cons ⟨t,rfl,st _ _ ht⟩ .nil
  |cons r _ ih=>
   obtain⟨u,e1,e2⟩:=r;exact .cons ⟨u,e1,st _ _ e2⟩ ih
 exact key t1 h2
theorem Bx:FnScope ["_law_text_here","_law_made","_law_at","_law_opens","_law_told","_law_mark"] ["_law_text_here"] (B6 eU):=by walk_at"sc"
theorem Kg(F:Fun K "_law_right" "_law_right" eU f fd)(B:Blt mg)(h_l_item:D8 P w K mg base "_law_item" 2 ["_law_word","_law_made"] qO)(h_l_closed:D8 P w K mg base "_law_closed" 3 ["_law_sign","_law_inner","_law_made"] Bt):FnOk P w K mg base C6 4 f fd ["_law_text_here"] Bw:=by
 refine F.ok Bx (by walk_at"ln") (λcdv A outer s H vs Q E hr h=>?_);obtain⟨z,rfl,ok,q⟩:=h;have hu:=F1 hr;have nd:=Bx.nd;have hln:=ok.ln;have s35:("#" : Str)=⟨#[35]⟩:=by decide +kernel
 have s59:(";" : Str)=⟨#[59]⟩:=by decide +kernel
 have s93:("]" : Str)=⟨#[93]⟩:=by decide +kernel
 have s125:("}" : Str)=⟨#[125]⟩:=by decide +kernel
 refine F4 (A4 (B9 (R9 (W2 (D0 Q6 A5 (qv 0) rfl) (X8 (D0 Q6 A5 (qv 0) rfl)))) (A7 (B3 N3)) C1)
  (A4 (B0 (i:=1) nd rfl (Or.inl rfl) (G4 A1))
  (A4 (bQ PassesOwn.never (R9 (W2 (D0 Q6 A5 (qv 0) rfl) (X8 (D0 Q6 A5 (qv 0) rfl)))) (A4 (B0 (i:=2) nd rfl (Or.inl rfl) (E7 (HF rfl) rfl B.min PyProof.Rows.boot_min (A0 (W3 rfl (.inr ⟨_,rfl⟩) (bU K A5) (LcStG.ok (sc:=B6 eU) (N:=["_law_text_here","_law_made","_law_at","_law_opens","_law_told","_law_mark"]) (fr:=[("_law_text_here",0)]) (by walk_at"s7") rfl rfl) (λ_ _ _ _=>(mI (D0 Q6 (qv 0) (qv 1) rfl))) (λ_ _ _ _=>(K4 K PySem.F.plainAttrs_str PySem.F.slot_str_find PySem.F.type_str_find HD (qv 1) (A0 (qv 0) A1)))) A1)))
  (A4 (wJ (n:=3) nd rfl (Or.inl rfl) rfl (.inr ⟨_,rfl⟩) (hV rfl B.range (A0 (qv 2) A1)) (LcStG.ok (sc:=B6 eU) (N:=["_law_text_here","_law_made","_law_at","_law_opens","_law_told","_law_mark"]) (fr:=[("_law_text_here",0)]) (by walk_at"s7") rfl rfl) (λ_ _ _ _=>(mI (D0 Q6 (E4 K hu (qv 1) (qv 0) (λ_ _=>rfl)) A5 rfl))) (λ_ _ _ _=>(qv 0)))
  (A4 (B9 (R9 (W2 (D0 (Hb K hu) (qv 3) (G4 A1) rfl) (X8 (D0 (Gy K hu) (A3 (B5 K) (E4 K hu (qv 0) (E4 K hu (qv 3) (aH A2) (λ_ _=>rfl)) (λ_ _=>rfl)) (E4 K hu (qv 0) (qv 2) (λ_ _=>rfl))) (bO (A0 A5 (A0 A5 A1))) rfl)))) (A7 (B3 N3)) C1)
  (A4 (B0 (i:=4) nd rfl (Or.inl rfl) (D9 h_l_closed hr (!3) rfl (A0 (E4 K hu (qv 0) (E4 K hu (qv 3) (aH A2) (λ_ _=>rfl)) (λ_ _=>rfl)) (A0 (O7 (qv 0) (L7 (A3 (B5 K) (E4 K hu (qv 3) (aH A2) (λ_ _=>rfl)) A2)) (L7 (qv 2))) (A0 (qv 1) A1)))))
  (A4 (B9 (D0 wL (qv 4) X7 rfl) (A7 (B3 N3)) C1)
  (A4 (P4 (K4 K PySem.F.plainAttrs_list PySem.F.slot_list_append PySem.F.type_list_append W4 (qv 1) (A0 (qv 4) A1)))
  (A4 (B0 (i:=5) nd rfl (Or.inl rfl) (A3 (B5 K) (A3 (B5 K) A5 (U4 mV rfl B.str boot_str (A0 (A3 U5 (E7 (L8 K) rfl B.len boot_len (A0 (qv 1) A1)) A2) A1))) A5))
  (A7 (B0 (i:=0) nd rfl (Or.inr rfl) (A3 (B5 K) (A3 (B5 K) (O7 (qv 0) R8 (L7 (E4 K hu (qv 3) (aH A2) (λ_ _=>rfl)))) (qv 5)) (O7 (qv 0) (L7 (A3 (B5 K) (qv 2) A2)) R8))))))))))))
  (A4 (B0 (i:=4) nd rfl (Or.inl rfl) (D9 h_l_item hr (!3) rfl (A0 (qv 0) (A0 (qv 1) A1))))
  (A7 (B3 (wC (R7 Gx (qv 4) X7 rfl) (wC (R7 U6 (E4 K hu (qv 4) A2 (λ_ _=>rfl)) A2 rfl) (Gq (R7 U6 (E4 K hu (qv 4) A2 (λ_ _=>rfl)) A2 rfl)))))))))) ?_
 have bad:¬W8 z.cps.toList->∀H',Same H H'->Q (.bl false) H':=λhn H' sm=>q false H' ⟨λh=>(by cases h),λh=>absurd h hn⟩ sm
 refine⟨_,rfl,_,_,rfl,rfl,_,rfl,?_⟩;rw[jW z 35 s35];by_cases h35:35∈z.cps.toList
 ·exact F2 (decide_eq_true h35) (C8 (bad (λg=>(Af g 35 h35).1 rfl) H (Same.refl H)))
 refine G3 (decide_eq_false h35) ⟨_,rfl,_,_,rfl,rfl,_,rfl,?_⟩;rw[jW z 59 s59];by_cases h59:59∈z.cps.toList
 ·exact F2 (decide_eq_true h59) (bad (λg=>(Af g 59 h59).2 rfl) H (Same.refl H))
 refine G3 (decide_eq_false h59) ⟨zero_le _,λa ha=>?_⟩;have hcl:z.cps.toList.countP C2<=z.length:=by rw[A8];exact List.countP_le_length
 refine⟨λm σ H'=>∃(S:List Nat)(made:List (Nat×Nat))(x2 x3 x4 x5:Option V),σ=[some (.str (sL S)),some (.ref a),x2,x3,x4,x5]/\Same H H'/\MdAt H' a made/\Asc (sL S)/\cC made.length S/\(∀p,N4 (C5 []) z.cps.toList p↔N4 (C5 made) S p)/\S.length+6*S.countP C2<=7*6000/\made.length+S.countP C2<=6000/\m=S.countP C2,
  ⟨_,z.cps.toList,[],none,none,none,none,by rw[O0];rfl,B2 ha _,⟨[],A6,.nil⟩,by rw[O0];exact ok.asc,ID λc hc=>⟨λe=>h35 (by rw[←e];exact hc),λe=>h59 (by rw[←e];exact hc)⟩,λ_=>Iff.rfl,by rw[←A8];omega,by show 0+_<=_;omega,rfl⟩,?_⟩
 rintro m _ H' ⟨S,made,x2,x3,x4,x5,rfl,sm,hmd,hasc,hmk,htx,hsl,hmc,rfl⟩;have hSl:(sL S).length=S.length:=by rw[A8]
 have zl:(sL S).length<=sizeLine:=le_of_lt (E8 _ (!1));have hI:=nZ made;have c93:Txt.contains (sL S) "]"=decide (93∈S):=jW (sL S) 93 s93;have c125:Txt.contains (sL S) "}"=decide (125∈S):=jW (sL S) 125 s125;have hclo:∀c,C2 c=true↔c=93∨c=125:=λc=>by unfold C2;simp
 have sAsc:∀{k c:Nat},S[k]?=some c->c<128:=λe=>N5.mp hasc _ (mem_of_getElem? e)
 have badS:(∀p,¬N4 (C5 made) S p)->∀H2,Same H H2->Q (.bl false) H2:=λhn=>bad λg=>by
  obtain⟨p,hp,_⟩:=(iX _).mp g;exact hn p ((htx p).mp hp)
 by_cases hex:∃x∈S,C2 x=true
 ·have h2:¬Txt.contains (sL S) "]"=true->Txt.contains (sL S) "}"=true:=λh=>by
   rw[c93]at h;rw[c125];obtain⟨x,hx,hc⟩:=hex;rcases(hclo x).mp hc with rfl|rfl
   ·exact absurd (decide_eq_true hx) h
   ·exact decide_eq_true hx
  refine(λtl=>⟨_,rfl,_,_,rfl,rfl,_,rfl,L3 (λ_=>C8 tl) (λh=>⟨_,rfl,_,_,rfl,rfl,_,rfl,F2 (h2 h) tl⟩)⟩) ?_;refine⟨fun σ H2=>∃m',m'<S.countP C2/\∃(S:List Nat)(made:List (Nat×Nat))(x2 x3 x4 x5:Option V),σ=[some (.str (sL S)),some (.ref a),x2,x3,x4,x5]/\Same H H2/\MdAt H2 a made/\Asc (sL S)/\cC made.length S/\(∀p,N4 (C5 []) z.cps.toList p↔N4 (C5 made) S p)/\S.length+6*S.countP C2<=7*6000/\made.length+S.countP C2<=6000/\m'=S.countP C2,λ_ _ z=>z,?_⟩;refine⟨"]}",rfl,(show Asc "]}" from by unfold Asc;decide +kernel),gW bV (λi ys H2=>H'=H2/\∃ns:List Int,ys=ns.map V.int/\ns.length<=i/\(∀n∈ns,∃(k c:Nat),n=(k:Int)/\C2 c=true/\S[k]?=some c)/\∀c∈[93,125].take i,c∈S->∃k:Nat,((k:Nat):Int)∈ns/\∀j,j<k->S[j]?≠some c) (G7 (!0)) ⟨rfl,[],rfl,le_refl _,λn hn=>(by cases hn),λc hc=>(by cases hc)⟩ (λi ys H2 hi p=>?_) (λi x ys H2 H3 hi p y=>?_) (λys H2 p r hr'=>?_)⟩
  ·obtain⟨rfl,ns,rfl,hnl,_⟩:=p
   exact⟨trivial,by rw[length_map];exact hnl⟩
  ·obtain⟨rfl,ns,rfl,hnl,hn1,hn2⟩:=p
   obtain⟨rfl,c,hc,rfl⟩:=y;have h2c:(([93,125]:List Nat))[i]?=some c:=by
    have e:("]}" : Str).cps.toList=[93,125]:=by decide +kernel
    rw[←e,←hc];simp
   have hcl':C2 c=true:=by
    have:=mem_of_getElem? h2c;simp at this;exact(hclo c).mpr this
   refine⟨_,rfl,rfl,_,rfl,_,rfl,_,_,rfl,rfl,_,rfl,?_⟩;rw[Ab];by_cases hm:c∈S
   ·obtain⟨k,hk1,hk2,hk3⟩:=Iz (x:=sL S) (c:=c) hm
    refine F2 (decide_eq_true hm) ⟨_,rfl,rfl,_,rfl,_,_,rfl,rfl,rfl,ns++[(k:Int)],?_,by rw[length_append];show _+1<=_;omega,λn hn=>?_,λd hd hdS=>?_⟩
    ·rw[hk1,map_append];rfl
    ·rcases mem_append.mp hn with hn|hn
     ·exact hn1 n hn
     ·exact⟨k,c,mem_singleton.mp hn,hcl',hk2⟩
    ·rw[take_succ,h2c]at hd
     rcases mem_append.mp hd with hd|hd
     ·obtain⟨k',h1,h2⟩:=hn2 d hd hdS
      exact⟨k',mem_append_left _ h1,h2⟩
     ·have:d=c:=by simpa using hd
      subst this;exact⟨k,!2,hk3⟩
   ·refine G3 (decide_eq_false hm) ⟨rfl,ns,rfl,!1,hn1,λd hd hdS=>?_⟩
    rw[take_succ,h2c]at hd;rcases mem_append.mp hd with hd|hd
    ·exact hn2 d hd hdS
    ·have:d=c:=by simpa using hd
     exact absurd (this ▸ hdS) hm
  obtain⟨rfl,ns,rfl,hnl,hn1,hn2⟩:=p;have hn2:∀c,C2 c=true->c∈S->∃k:Nat,((k:Nat):Int)∈ns/\∀j,j<k->S[j]?≠some c:=λc hc hm=>hn2 c (by
   have e:("]}" : Str).cps.size=2:=by decide +kernel
   rw[e];rcases(hclo c).mp hc with rfl|rfl<;>simp) hm
  have hne:ns≠[]:=λe=>by
   obtain⟨x,hx,hc⟩:=hex;obtain⟨k,hk,_⟩:=hn2 x hc hx;rw[e]at hk;cases hk
  refine⟨r,ns,rfl,A6,hne,λM hM hmin=>?_⟩;obtain⟨atz,ca,rfl,hca,hat⟩:=hn1 M hM;have hfst:∀j c,j<atz->S[j]?=some c->C2 c=false:=λj c hj e=>by
   cases hc:C2 c with
   |false=>rfl
   |true=>
    obtain⟨k,hk1,hk2⟩:=hn2 c hc (mem_of_getElem? e);have:=hmin _ hk1;exact absurd e (hk2 j (!1))
  have hatl:atz<S.length:=(List.getElem?_eq_some_iff.mp hat).1;have s1:=B2 hr' (.lst (ns.map V.int));generalize upd H' r (.lst (ns.map V.int))=H1 at s1 ⊢;clear hn1 hn2 hM hmin hne hnl hr';have hatZ:I0 (sL S).cps.toList ((atz:Nat):Int)=some ca:=L1 hat;refine⟨_,rfl,(atz:Int),rfl,!1,!1,gW (gY (lo:=0) (n:=((atz:Nat):Int).toNat)) (λi ys H2=>H1=H2/\ys=((List.range i).filter λk=>G9 (S.getD k 0)).map λk:Nat=>V.int (k:Int)) (le_of_lt (E8 _ (!1))) ⟨rfl,rfl⟩ (λi ys H2 hi p=>?_) (λi x ys H2 H3 hi p y=>?_) (λys H2 p r2 hr2=>?_)⟩
  ·obtain⟨rfl,rfl⟩:=p
   refine⟨trivial,?_⟩;rw[length_map];exact le_trans (length_filter_le _ _) (by rw[length_range];exact le_refl _)
  ·obtain⟨rfl,rfl⟩:=p
   obtain⟨rfl,rfl⟩:=y;have hi':i<S.length:=by omega
   obtain⟨ck,hck⟩:∃ck,S[i]?=some ck:=⟨_,getElem?_eq_getElem hi'⟩
   have hg:S.getD i 0=ck:=by rw[getD_eq_getElem?_getD,hck];rfl
   refine⟨_,rfl,rfl,_,rfl,_,rfl,?_⟩;rw[Int.zero_add];refine O6 zl (c:=ck) (L1 hck) ⟨_,_,rfl,rfl,_,rfl,?_⟩;rw[Ke (sAsc hck)];cases ho:G9 ck with
   |true=>
    refine C8 ⟨_,rfl,rfl,?_⟩;rw[range_succ,filter_append,List.filter_cons_of_pos (by rw[hg];exact ho),map_append];rfl
   |false=>
    refine C0 ⟨rfl,?_⟩;rw[range_succ,filter_append,List.filter_cons_of_neg (by rw[hg,ho];simp),List.filter_nil,append_nil]
  obtain⟨rfl,rfl⟩:=p;rw[toNat_natCast];generalize hos:(List.range atz).filter (λk=>G9 (S.getD k 0))=os at *;have s2:=B2 hr2 (.lst (os.map λk:Nat=>V.int (k:Int)));have ho2:upd H1 r2 (.lst (os.map λk:Nat=>V.int (k:Int))) r2=some (.lst (os.map λk:Nat=>V.int (k:Int))):=A6;generalize upd H1 r2 (.lst (os.map λk:Nat=>V.int (k:Int)))=H2 at s2 ho2 ⊢;have S2:Same H' H2:=s1.trans s2;refine⟨_,rfl,zero_le _,λe0 he0=>⟨r2,e0,_,rfl,rfl,SqL.of (J9 (E5 ho2 he0) ho2),A6,_,rfl,?_⟩⟩;have s3:=B2 he0 (.lst []);have ho3:=s3 _ _ ho2;generalize upd H2 e0 (.lst [])=H3 at s3 ho3 ⊢;rcases List.eq_nil_or_concat os with hnil|⟨ini,o,hcon⟩
  ·subst hnil
   refine F2 rfl (C8 (badS (λp=>?_) H3 (sm.trans (S2.trans s3))));have eS:S=S.take atz++ca::S.drop (atz+1):=by
    have:=(List.take_append_drop atz S).symm;rw[drop_eq_getElem_cons hatl,(List.getElem?_eq_some_iff.mp hat).2]at this;exact this
   rw[eS];refine HZ hI (oZ λj c hj e=>?_) (oZ hfst) hca p;have:=IB hos j hj
   rwa [getD_eq_getElem?_getD,e]at this
  ·rw[List.concat_eq_append]at hcon
   subst hcon;obtain⟨g1,g2,g3⟩:=Ad hos;obtain⟨co,hco⟩:∃co,S[o]?=some co:=⟨_,getElem?_eq_getElem (!1)⟩
   have gd:∀{j c:Nat},S[j]?=some c->S.getD j 0=c:=λe=>by rw[getD_eq_getElem?_getD,e];rfl
   rw[gd hco]at g1;have cut:=IC hat hca hfst hco g1 g2 λj c h1 h2 e=>by have:=g3 j h1 h2;rwa [gd e]at this
   have elast:∀{G:Hp},G r2=some (.lst ((ini++[o]).map λk:Nat=>V.int (k:Int)))->SqL K G r2 ((ini.map λk:Nat=>V.int (k:Int))++[.int (o:Int)]):=λh=>by
    rw[map_append]at h;exact SqL.of h
   refine G3 (!2) ⟨_,rfl,_,rfl,_,rfl,N2 (elast ho3) (bA _ _) (O6 zl (L1 hco) ⟨_,rfl,_,rfl,O6 zl hatZ (K3 (G7 (show 1+1<=1000 by decide)) ⟨(by show 2<=sizeLine;decide),λtp htp=>HH A6 ⟨_,rfl,?_⟩⟩)⟩)⟩;have s4:=B2 htp (.tup [.str "[]",.str "{}"]);have ho4:=s4 _ _ ho3;generalize upd H3 tp (.tup [.str "[]",.str "{}"])=H4 at s4 ho4 ⊢;have S4:Same H' H4:=S2.trans (s3.trans s4);have epair:bB (.str (⟨#[co]⟩++⟨#[ca]⟩)) [.str "[]",.str "{}"]=decide ((⟨#[co]⟩++⟨#[ca]⟩:Str)∈(["[]","{}"]:List Str)):=Hd _ ["[]","{}"];have epl:((⟨#[co]⟩++⟨#[ca]⟩:Str)).cps.toList=[co,ca]:=by rw[PyProof.Rows.cps_toList_append];rfl
   have e1:("[]" : Str).cps.toList=[91,93]:=by decide +kernel
   have e2:("{}" : Str).cps.toList=[123,125]:=by decide +kernel
   have hbb:(⟨#[co]⟩++⟨#[ca]⟩:Str)∈(["[]","{}"]:List Str)↔∃b,co=G1 b/\ca=cls b:=by
    constructor
    ·intro h
     rcases mem_cons.mp h with h|h
     ·rw[h,e1]at epl
      simp only[List.cons.injEq]at epl;exact⟨false,epl.1.symm,epl.2.1.symm⟩
     ·rw[mem_singleton.mp h,e2]at epl
      simp only[List.cons.injEq]at epl;exact⟨true,epl.1.symm,epl.2.1.symm⟩
    ·rintro ⟨b,rfl,rfl⟩
     cases b with
     |false=>exact mem_cons.mpr (.inl (Q9 (epl.trans e1.symm)))
     |true=>exact mem_cons.mpr (.inr (mem_singleton.mpr (Q9 (epl.trans e2.symm))))
   rw[epair];by_cases hb:∃b,co=G1 b/\ca=cls b
   ·rw[decide_eq_true (hbb.mpr hb)]
    obtain⟨b,rfl,rfl⟩:=hb;have binj:∀{b':Bool},G1 b=G1 b'->b=b':=λ{b'} h=>by cases b<;>cases b'<;>first|rfl|(revert h;decide)
    refine C0 ⟨_,rfl,_,rfl,_,rfl,N2 (elast ho4) (bA _ _) (O6 zl (L1 hco) ⟨_,rfl,_,rfl,_,rfl,N2 (elast ho4) (bA _ _) (J3 ⟨_,rfl,_,rfl,_,rfl,sL S,rfl,zl,?_⟩)⟩)⟩;have hin:(Txt.slice (sL S) (some ((o:Int)+1)) (some ((atz:Nat):Int))).cps.toList=(S.drop (o+1)).take (atz-(o+1)):=iZ (sL S) (o+1) atz (!1) (!1);generalize Txt.slice (sL S) (some ((o:Int)+1)) (some ((atz:Nat):Int))=sn at hin ⊢;have eS:=cut.e;have hsnl:sn.length<=S.length:=by
     rw[A8,hin,length_take,length_drop];omega
    have hsna:Asc sn:=N5.mpr λc hc=>N5.mp hasc c (by
     rw[hin]at hc;exact List.mem_of_mem_drop (mem_of_mem_take hc))
    have esn:sL ((S.drop (o+1)).take (atz-(o+1)))=sn:=by rw[←hin,O0]
    refine⟨_,rfl,b,sn,a,made,rfl,hsna,!1,hmd.mono S4,!1,λu w v e=>?_,λhn H5 s5=>?_,λv hv t H5 s5 ht=>?_⟩
    ·intro ds e' hd
     refine yW (S:=S) (a:=S.take o++G1 b::u) (w:=w) (b:=v++cls b::S.drop (atz+1)) hmk ?_ e' hd;refine eS.trans ?_;rw[←hin,e];simp
    ·refine⟨_,rfl,rfl,_,rfl,F2 rfl (badS (yX cut λb' hb1 hb2=>?_) H5 (sm.trans (S4.trans s5)))⟩
     rw[←binj hb1,esn];exact hn
    ·obtain⟨vs,hv1,hvl,hmd'⟩:=(hmd.mono (S4.trans s5)).snoc (p:=(v.1+1,v.2+1)) ht
     obtain⟨hmk',hst⟩:=HY hmk cut (by rw[esn];exact hv);have ho5:=s5 _ _ ho4;have hra:r2≠a:=λe=>by
      rw[e]at hr2;obtain⟨_,h,_⟩:=hmd;rw[s1 _ _ h]at hr2;cases hr2
     refine⟨_,rfl,rfl,_,rfl,G3 rfl ⟨_,rfl,.inl ⟨rfl,_,SqL.of hv1⟩,_,rfl,a,vs,_,rfl,rfl,hv1,E8 _ (!1),?_⟩⟩;have ho6:upd H5 a (.lst (vs++[.ref t])) r2=some (.lst ((ini++[o]).map λk:Nat=>V.int (k:Int))):=J9 hra ho5;have S6:Same H (upd H5 a (.lst (vs++[.ref t]))):=(sm.trans (S4.trans s5)).put ha;have hv6:upd H5 a (.lst (vs++[.ref t])) a=some (.lst (vs++[.ref t])):=A6;generalize upd H5 a (.lst (vs++[.ref t]))=H6 at ho6 S6 hv6 hmd' ⊢;refine⟨_,rfl,bL (SqL.of hv6) ⟨_,_,rfl,rfl,?_⟩⟩;have em:(((vs++[V.ref t]).length:Nat):Int)-1=((made.length:Nat):Int):=by rw[length_append,hvl];show((made.length+1:Nat):Int)-1=_;omega
     have hms:=zZ (k:=made.length) (!1);have hnt:(nT ((made.length:Nat):Int)).cps.toList=dg made.length:=P5 _;have hntl:(nT ((made.length:Nat):Int)).length<=6:=by rw[A8,hnt];exact hms.2
     have mkE:(("#" : Str)++nT ((made.length:Nat):Int)++";").cps.toList=B8 made.length:=by
      rw[PyProof.Rows.cps_toList_append,PyProof.Rows.cps_toList_append,hnt];rfl
     have mkl:(("#" : Str)++nT ((made.length:Nat):Int)++";").length<=8:=by
      rw[A8,mkE];show(dg made.length++[59]).length+1<=8;rw[length_append];show _+1+1<=8;omega
     refine⟨((made.length:Nat):Int),(by show[V.int ((((vs++[V.ref t]).length:Nat):Int)-1)]=_;rw[em]),iF (show(((made.length:Nat):Int)).natAbs<10^60 from lt_of_le_of_lt (show made.length<=6000 by omega) (!3)),K3 (G7 (show 1+(nT ((made.length:Nat):Int)).length<=1000 by omega)) (K3 (G7 ?_) ?_)⟩
     ·rw[A8,PyProof.Rows.cps_toList_append,length_append,←A8 (Str.ofString (toString ((made.length:Nat):Int)))]
      show 1+(nT ((made.length:Nat):Int)).length+1<=1000;omega
     ·have hpre:(Txt.slice (sL S) none (some ((o:Nat):Int))).cps.toList=S.take o:=oY (sL S) o (!1)
      have hpost:(Txt.slice (sL S) (some (((atz:Nat):Int)+1)) none).cps.toList=S.drop (atz+1):=jA (sL S) (atz+1) (!1);refine⟨_,rfl,_,rfl,_,rfl,N2 (elast ho6) (bA _ _) ⟨_,rfl,sL S,rfl,zl,_,rfl,K3 (le_of_lt (E8 _ ?_)) ⟨_,rfl,_,rfl,J3 ⟨_,rfl,sL S,rfl,zl,K3 (le_of_lt (E8 _ ?_)) ?_⟩⟩⟩⟩
      ·show(Txt.slice (sL S) none (some ((o:Nat):Int))).length+(("#" : Str)++nT ((made.length:Nat):Int)++";").length<=100000
       rw[A8 (Txt.slice _ _ _),hpre,length_take];omega
      ·show(Txt.slice (sL S) none (some ((o:Nat):Int))++(("#" : Str)++nT ((made.length:Nat):Int)++";")).length+(Txt.slice (sL S) (some (((atz:Nat):Int)+1)) none).length<=100000
       rw[A8,PyProof.Rows.cps_toList_append,hpre,length_append,←A8 (("#" : Str)++nT ((made.length:Nat):Int)++";"),length_take,A8 (Txt.slice _ _ _),hpost,length_drop];omega
      ·have eT:Txt.slice (sL S) none (some ((o:Nat):Int))++(("#" : Str)++nT ((made.length:Nat):Int)++";")++Txt.slice (sL S) (some (((atz:Nat):Int)+1)) none=sL (S.take o++(B8 made.length++S.drop (atz+1))):=by
        refine Q9 ?_;rw[PyProof.Rows.cps_toList_append,PyProof.Rows.cps_toList_append,hpre,hpost,mkE,append_assoc]
       have hcnt:=IE cut (m:=made.length);have hlenS:=congrArg length eS;rw[length_append,length_cons,length_append,length_cons]at hlenS;have hmkl:(B8 made.length).length<=8:=by rw[←mkE,←A8];exact mkl
       refine⟨_,!1,S.take o++(B8 made.length++S.drop (atz+1)),made++[(v.1+1,v.2+1)],some (.int (atz:Nat)),some (.ref r2),some (.ref t),some (.str (("#" : Str)++nT ((made.length:Nat):Int)++";")),?_,S6,hmd',?_,?_,λp=>(htx p).trans (hst p),?_,?_,rfl⟩
       ·rw[←eT]
        rfl
       ·refine N5.mpr λc hc=>?_
        rw[Y7]at hc;rcases mem_append.mp hc with hc|hc
        ·exact N5.mp hasc c (mem_of_mem_take hc)
        ·rcases mem_append.mp hc with hc|hc
         ·rcases mem_cons.mp hc with rfl|hc
          ·decide
          ·rcases mem_append.mp hc with hc|hc
           ·have:=aJ hc
            omega
           ·rw[mem_singleton.mp hc];decide
         ·exact N5.mp hasc c (List.mem_of_mem_drop hc)
       ·rw[length_append]
        exact hmk'
       ·rw[length_append,length_append]
        omega
       ·rw[length_append]
        show made.length+1+_<=_;omega
   ·rw[decide_eq_false λh=>hb (hbb.mp h)]
    exact C8 (badS (yX cut λb' h1 h2=>absurd ⟨b',h1,h2⟩ hb) H4 (sm.trans S4))
 ·have n1:Txt.contains (sL S) "]"=false:=by rw[c93];exact decide_eq_false λh=>hex ⟨93,h,!3⟩
  have n2:Txt.contains (sL S) "}"=false:=by rw[c125];exact decide_eq_false λh=>hex ⟨125,h,!3⟩
  refine⟨_,rfl,_,_,rfl,rfl,_,rfl,G3 n1 ⟨_,rfl,_,_,rfl,rfl,_,rfl,G3 n2 ?_⟩⟩;have hitem:=λp=>HX (I:=C5 made) hex p
  refine⟨_,rfl,_,rfl,sL S,a,made,rfl,hasc,!1,hmd,!1,λds e hd=>yW (a:=[]) (b:=[]) hmk (!2) e hd,λhn H2 s2=>?_,λp hp t H2 s2 ht=>?_⟩
  ·refine⟨_,rfl,rfl,_,rfl,G3 rfl (bad (λg=>?_) H2 (sm.trans s2))⟩
   obtain⟨p,hp,_⟩:=(iX _).mp g;have:=(hitem p).mp ((htx p).mp hp);rw[hn]at this;cases this
  ·have hg:W8 z.cps.toList↔p.1<=100/\p.2<=20:=by
    rw[iX];constructor
    ·rintro ⟨p',h1,h2⟩
     have:=(hitem p').mp ((htx p').mp h1);rw[hp]at this;cases this;exact h2
    ·exact λh=>⟨p,(htx p).mpr ((hitem p).mpr hp),h⟩
   refine⟨_,rfl,rfl,_,rfl,F2 rfl ⟨_,rfl,dL ht (v:=.int (p.1:Nat)) rfl ⟨_,_,rfl,rfl,_,rfl,?_⟩⟩⟩;by_cases h1:p.1<=100
   ·refine F2 (decide_eq_true (!1)) ⟨_,rfl,dL ht (v:=.int (p.2:Nat)) rfl ⟨_,_,rfl,rfl,q _ H2 ?_ (sm.trans s2)⟩⟩
    rw[hg,decide_eq_true_iff];exact⟨λh=>⟨h1,!1⟩,λh=>by omega⟩
   ·exact G3 (decide_eq_false (!1)) (bad (λg=>h1 (hg.mp g).1) H2 (sm.trans s2))
end
end K04
namespace K04
open PySem L2 Rg
section
variable{P:Program}{w:World}{K:Frag}{mg:Str->Option Value}{base:Heap}{f:Addr}{fd:FuncData}
structure XK4(K:Frag)(CB CR CN CL:Addr):Prop where
 b:kitOne K (.ref CB) (.ref CB)=some true
 v:kitOne K (.ref CB) (.type "ValueError")=some true
 r:kitOne K (.ref CB) (.ref CR)=some false
 n:kitOne K (.ref CB) (.ref CN)=some false
 l:kitOne K (.ref CB) (.ref CL)=some false
theorem Kh:bootBuiltins "ValueError"=some (.type "ValueError"):=by decide +kernel
def By:Sp:=λvs H Q _=>∃z:Str,vs=[.str z]/\TxOk z/\¬W8 z.cps.toList/\∀(r:Addr) H',Same H H'->H' r=some (.lst [.bl true,.bl true,.bl false,.bl false,.bl false])->Q (.ref r) H'
theorem Bz:FnScope ["_law_text_here","_law_flags_here","e"] ["_law_text_here"] (B6 pV):=by walk_at"sc"
theorem Ki{f_BadThing f_BadRow f_NoForm f_Loop f_GateError:Addr}(F:Fun K "_law_flags" "_law_flags" pV f fd)(B:Blt mg)(mVE:mg "ValueError"=none)(m_BadThing:mg "BadThing"=some (.ref f_BadThing))(m_BadRow:mg "BadRow"=some (.ref f_BadRow))(m_NoForm:mg "NoForm"=some (.ref f_NoForm))(m_Loop:mg "Loop"=some (.ref f_Loop))(m_GateError:mg "GateError"=some (.ref f_GateError))(xc:XCn K f_BadThing f_GateError)(xk:XK4 K f_BadThing f_BadRow f_NoForm f_Loop)
  (h_thing_of:M6 P w K mg base "thing_of" 47 ["text"] (qG f_BadThing)):FnOk P w K mg base C6 48 f fd ["_law_text_here"] By:=by
 refine F.ok Bz (by walk_at"ln") (λcdv A outer s H vs Q E hr h=>?_);obtain⟨z,rfl,ok,hn,q⟩:=h;have hu:=F1 hr;have nd:=Bz.nd;refine F4 (A4 (B0 (i:=1) nd rfl (Or.inl rfl) (G4 A1))
  (X9 (Hy h_thing_of hr (!3) rfl (A0 (qv 0) A1) (Hw K rfl m_GateError nd (i:=2) rfl rfl (λa=>(A4 (B0 (i:=1) nd rfl (Or.inl rfl) (G4 (A0 (E7 (dZ K) rfl B.isi boot_isinstance (A0 (qv 2) (A0 (bM (v:=.ref f_BadThing) rfl m_BadThing rfl) A1))) (A0 (E7 (dZ K) rfl B.isi boot_isinstance (A0 (qv 2) (A0 (bN (v:=.ty "ValueError") rfl mVE Kh rfl) A1))) (A0 (E7 (dZ K) rfl B.isi boot_isinstance (A0 (qv 2) (A0 (bM (v:=.ref f_BadRow) rfl m_BadRow rfl) A1))) A1)))))
  (A7 (B0 (i:=1) nd rfl (Or.inl rfl) (A3 (B5 K) (qv 1) (G4 (A0 (E7 (dZ K) rfl B.isi boot_isinstance (A0 (qv 2) (A0 (bM (v:=.ref f_NoForm) rfl m_NoForm rfl) A1))) (A0 (E7 (dZ K) rfl B.isi boot_isinstance (A0 (qv 2) (A0 (bM (v:=.ref f_Loop) rfl m_Loop rfl) A1))) A1)))))))) (λ_ _ z=>z)) (λ_ _ z=>z) rfl rfl)
  (A7 (B3 (qv 1))))) ?_
 refine⟨zero_le _,λl0 hl0=>?_⟩;have s0:=B2 hl0 (.lst []);show mE _ _ _ _ (upd H l0 (.lst []));generalize upd H l0 (.lst [])=H0 at s0 ⊢;refine⟨fun σ H2=>∃(r:Addr)(x2:Option V),σ=[some (.str z),some (.ref r),x2]/\Same H H2/\H2 r=some (.lst [.bl true,.bl true,.bl false,.bl false,.bl false]),?_,?_⟩
 ·refine⟨_,rfl,z,rfl,ok,λ_ H1 s1=>⟨f_BadThing,rfl,λa ha=>⟨xc,?_⟩⟩,λt e rd h1 h2=>absurd ⟨t,e,rd.wf,h1,h2⟩ hn⟩
  have s2:=B2 ha (ExO a f_BadThing none false);have ea:upd H1 a (ExO a f_BadThing none false) a=some (ExO a f_BadThing none false):=A6;generalize upd H1 a (ExO a f_BadThing none false)=H2 at s2 ea ⊢;refine⟨_,rfl,iI xc ea xk.b ⟨_,rfl,HB xc ea xk.v ⟨_,rfl,iI xc ea xk.r ⟨(by show 3<=sizeLine;decide),λl1 hl1=>?_⟩⟩⟩⟩;have s3:=B2 hl1 (.lst [.bl true,.bl true,.bl false]);have e3:upd H2 l1 (.lst [.bl true,.bl true,.bl false]) l1=some (.lst [.bl true,.bl true,.bl false]):=A6;have ea3:=s3 _ _ ea;generalize upd H2 l1 (.lst [.bl true,.bl true,.bl false])=H3 at s3 e3 ea3 ⊢;refine⟨_,rfl,_,rfl,iI xc ea3 xk.n ⟨_,rfl,iI xc ea3 xk.l ⟨(by show 2<=sizeLine;decide),λl2 hl2=>?_⟩⟩⟩;have s4:=B2 hl2 (.lst [.bl false,.bl false]);refine dJ (s4 _ _ e3) A6 (G7 (!3)) λl3 hl3=>⟨l3,_,rfl,s0.trans (s1.trans (s2.trans (s3.trans (s4.trans (B2 hl3 _))))),A6⟩
 ·rintro _ H2 ⟨r,x2,rfl,sm,hr2⟩
  exact⟨_,rfl,q r H2 sm hr2⟩
theorem Kj{k:Nat}{ps:List Str}{sp:Sp}(F:FnOk P w K mg base (G8 P w) k f fd ps sp):FnOk P w K mg base C6 k f fd ps (λvs H Q _=>sp vs H Q λ_ _ _=>False):=
 ⟨λvs H Q _ h=>F.len vs H Q _ h,λA outer s H args us vs Q E hr he hb hv h=>codeAny_mono (F.run A outer s H args us vs Q _ hr he hb hv h) λr s' hq=>by
  cases r with
  |ok fl=>cases fl<;>exact hq
  |error e=>
   obtain⟨_,_,_,_,_,_,_,_,_,_,_,_,_,_,_,z⟩:=hq;exact z.elim⟩
def BA:Sp:=λvs H Q _=>∃z:Str,vs=[.str z]/\TxOk z/\∀H',Same H H'->Q (.bl true) H'
theorem BB:FnScope ["_law_text_here","_law_found"] ["_law_text_here"] (B6 pW):=by walk_at"sc"
theorem Kk{CB:Addr}(F:Fun K "_law_good" "_law_good" pW f fd)(B:Blt mg)(h_l_right:D8 P w K mg base "_law_right" 4 ["_law_text_here"] Bw)(h_l_flags:D8 P w K mg base "_law_flags" 48 ["_law_text_here"] By)(h_thing_of:D8 P w K mg base "thing_of" 47 ["text"] (λvs H Q _=>qG CB vs H Q λ_ _ _=>False))(h_thing_text:D8 P w K mg base "thing_text" 7 ["thing"] AJ):FnOk P w K mg base C6 49 f fd ["_law_text_here"] BA:=by
 refine F.ok BB (by walk_at"ln") (λcdv A outer s H vs Q E hr h=>?_);obtain⟨z,rfl,ok,q⟩:=h;have hu:=F1 hr;have nd:=BB.nd;refine F4 (A4 (B9 (P3 (F8 K (D9 h_l_right hr (!3) rfl (A0 (qv 0) A1)) (λ_=>rfl))) (A7 (B3 (R7 (IF hr) (D9 h_l_flags hr (!3) rfl (A0 (qv 0) A1)) (G4 (A0 N3 (A0 N3 (A0 N3 (A0 N3 (A0 N3 A1)))))) rfl))) C1)
  (A4 (B0 (i:=1) nd rfl (Or.inl rfl) (D9 h_thing_of hr (!3) rfl (A0 (qv 0) A1)))
  (A7 (B3 (R7 J0 (D9 h_thing_text hr (!3) rfl (A0 (qv 1) A1)) (qv 0) rfl))))) ?_
 refine⟨_,rfl,z,rfl,ok,λb H1 hb s1=>⟨_,rfl,?_⟩⟩;cases b with
 |false=>
  have hn:¬W8 z.cps.toList:=λg=>by cases hb.mpr g
  refine C8 ⟨_,rfl,z,rfl,ok,hn,λr H2 s2 hr2=>⟨(by show 5<=sizeLine;decide),λl hl=>?_⟩⟩;have s3:=B2 hl (.lst [.bl true,.bl true,.bl false,.bl false,.bl false]);have dr:∀{G:Hp}{a:Addr},G a=some (.lst [.bl true,.bl true,.bl false,.bl false,.bl false])->Q4 G (.lst [.bl true,.bl true,.bl false,.bl false,.bl false]) (.ref a):=λh=>⟨_,_,rfl,h,_,_,rfl,rfl,_,_,rfl,rfl,_,_,rfl,rfl,_,_,rfl,rfl,_,_,rfl,rfl,rfl⟩
  exact⟨_,dr (s3 _ _ hr2),dr A6,⟨trivial,trivial,trivial,trivial,trivial,trivial⟩,!3,q _ (s1.trans (s2.trans s3))⟩
 |true=>
  obtain⟨t,e,hw,h1,h2⟩:=hb.mp rfl;refine C0 ⟨_,rfl,z,rfl,ok,λhn=>absurd ⟨t,e,hw,h1,h2⟩ hn,λt' e' rd' h1' h2' v H2 s2 rep=>?_⟩;refine⟨_,rfl,t',v,rfl,rep.mono mM,rd',!1,by rw[e',←A8];have:=ok.ln;omega,λH3 s3=>⟨_,rfl,rfl,?_⟩⟩;rw[Bp,decide_eq_true (show sL t'.tx=z by rw[e',O0])];exact q H3 (s1.trans (s2.trans s3))
end
end K04
namespace K04
open PySem L2 Rg
section
variable{P:Program}{w:World}{K:Frag}{mg:Str->Option Value}{base:Heap}{f:Addr}{fd:FuncData}
theorem Bd.sub{L C:Nat}{S T:List Nat}(h:Bd L C S)(hs:T.Sublist S):Bd L C T:=⟨λc hc=>h.asc c (hs.mem hc),le_trans hs.length_le h.ln,le_trans (hs.count_le 58) h.co⟩
theorem Bd.tx{L C:Nat}{z:Str}(h:Bd L C z.cps.toList)(hL:L<=6000)(hC:C<=60):TxOk z:=⟨N5.mpr h.asc,by rw[A8];exact le_trans h.ln hL,le_trans h.co hC⟩
theorem Kl(z:Str):(Txt.slice z (some (((z.length:Nat):Int)+1)) none).cps.toList=[]:=by
 have e:Builtin.Str.strSliceIndices (some (((z.length:Nat):Int)+1)) none 1 z.length=Builtin.Str.strSliceIndices (some ((z.length:Nat):Int)) none 1 z.length:=by
  have e1:max (0:Int) (min (if((z.length:Nat):Int)+1<0 then((z.length:Nat):Int)+1+((z.length:Nat):Int)else((z.length:Nat):Int)+1) ((z.length:Nat):Int))=max 0 (min (if((z.length:Nat):Int)<0 then((z.length:Nat):Int)+((z.length:Nat):Int)else((z.length:Nat):Int)) ((z.length:Nat):Int)):=by
   rw[if_neg (!1),if_neg (!1)];omega
  show PySem.sliceRange (max (0:Int) (min (if((z.length:Nat):Int)+1<0 then((z.length:Nat):Int)+1+((z.length:Nat):Int)else((z.length:Nat):Int)+1) ((z.length:Nat):Int))) _ _=PySem.sliceRange (max 0 (min (if((z.length:Nat):Int)<0 then((z.length:Nat):Int)+((z.length:Nat):Int)else((z.length:Nat):Int)) ((z.length:Nat):Int))) _ _;rw[e1]
 have e2:Txt.slice z (some (((z.length:Nat):Int)+1)) none=Txt.slice z (some ((z.length:Nat):Int)) none:=by
  show StrLaws.sliceText z (some (((z.length:Nat):Int)+1)) none=StrLaws.sliceText z (some ((z.length:Nat):Int)) none;unfold StrLaws.sliceText;rw[e]
 rw[e2,jA z z.length (le_refl _)];exact drop_of_length_le (by rw[←A8];exact le_refl _)
theorem Km(z:Str){a:Nat}(ha:a<=z.length):(Txt.slice z (some (((a:Nat):Int)+1)) none).cps.toList=z.cps.toList.drop (a+1):=by
 rcases lt_or_ge a z.length with h|h
 ·exact jA z (a+1) (!1)
 ·have:a=z.length:=by omega
  rw[this,Kl,drop_of_length_le (by rw[←A8];omega)]
def P9(ws:List Str):Nat:=(ws.map (·.length)).sum
def S0(ws:List Str):Nat:=(ws.map λw=>D7 w.cps.toList).sum
theorem qR{D1:Str}(hs:∀c∈D1.cps.toList,c<128):∀{ws:List Str},(∀w∈ws,∀c∈w.cps.toList,c<128)->Bd (P9 ws+ws.length*D1.length) (S0 ws+ws.length*D7 D1.cps.toList) (Str.join D1 ws).cps.toList
 |[],_=>⟨λc hc=>(by cases hc),zero_le _,zero_le _⟩
 |[w],h=>⟨h w mem_cons_self,by show w.cps.toList.length<=(w.length+0)+1*D1.length;rw[←A8];omega,by show D7 w.cps.toList<=(D7 w.cps.toList+0)+1*D7 D1.cps.toList;omega⟩
 |w::v::r,h=>by
  have ih:=qR hs (ws:=v::r) λx hx=>h x (mem_cons_of_mem _ hx)
  have e:(Str.join D1 (w::v::r)).cps.toList=w.cps.toList++(D1.cps.toList++(Str.join D1 (v::r)).cps.toList):=by
   show(w++D1++Str.join D1 (v::r)).cps.toList=_;rw[PyProof.Rows.cps_toList_append,PyProof.Rows.cps_toList_append,append_assoc]
  rw[e];have hw:Bd w.length (D7 w.cps.toList) w.cps.toList:=⟨h w mem_cons_self,by rw[A8];exact le_refl _,le_refl _⟩;have hsp:Bd D1.length (D7 D1.cps.toList) D1.cps.toList:=⟨hs,by rw[A8];exact le_refl _,le_refl _⟩;refine(hw.app (hsp.app ih)).mono ?_ ?_
  ·show _<=(w.length+P9 (v::r))+((v::r).length+1)*D1.length
   rw[succ_mul];omega
  ·show _<=(D7 w.cps.toList+S0 (v::r))+((v::r).length+1)*D7 D1.cps.toList
   rw[succ_mul];omega
theorem BC:∀ws:List Str,P9 ws<=(J6 44 32 ws).length/\S0 ws<=D7 (J6 44 32 ws)
 |[]=>⟨le_refl _,le_refl _⟩
 |[w]=>⟨by show w.length+0<=w.cps.toList.length;rw[←A8];omega,by show D7 w.cps.toList+0<=D7 w.cps.toList;omega⟩
 |w::v::r=>by
  obtain⟨h1,h2⟩:=BC (v::r);refine⟨?_,?_⟩
  ·show w.length+P9 (v::r)<=(w.cps.toList++44::32::J6 44 32 (v::r)).length
   rw[length_append,length_cons,length_cons,←A8];omega
  ·show D7 w.cps.toList+S0 (v::r)<=D7 (w.cps.toList++44::32::J6 44 32 (v::r))
   rw[V3,cJ 44,cJ 32];omega
theorem qS{x:Str}:∀{ws:List Str}{i:Nat},P9 (ws.set i x)<=P9 ws+x.length/\S0 (ws.set i x)<=S0 ws+D7 x.cps.toList
 |[],i=>⟨zero_le _,zero_le _⟩
 |w::r,0=>⟨by show x.length+P9 r<=(w.length+P9 r)+x.length;omega,by show D7 x.cps.toList+S0 r<=(D7 w.cps.toList+S0 r)+D7 x.cps.toList;omega⟩
 |w::r,i+1=>by
  obtain⟨h1,h2⟩:=qS (x:=x) (ws:=r) (i:=i);exact⟨by show w.length+P9 (r.set i x)<=(w.length+P9 r)+x.length;omega,by show D7 w.cps.toList+S0 (r.set i x)<=(D7 w.cps.toList+S0 r)+D7 x.cps.toList;omega⟩
theorem BD{H:Hp}{a:Addr}{xs:List V}{i:Nat}{v:V}{R:Hp->Prop}(h:H a=some (.lst xs))(hi:i<xs.length)(q:R (upd H a (.lst (xs.set i v)))):aF (.ref a) (.int (i:Int)) v H R:=by
 unfold aF;refine .inr ⟨a,xs,i,i,rfl,rfl,h,?_,q⟩;unfold T9;rw[if_pos (!1),if_pos (!1),toNat_natCast]
def BE:Sp:=λvs H Q _=>∃(z:Str)(n:Int),vs=[.str z,.int n]/\0<=n/\Bd 709 12 z.cps.toList/\∀(y:Str) H',TxOk y->Same H H'->Q (.str y) H'
theorem BF:FnScope ["_law_text_here","_law_number_here","_law_at","_law_some","_law_sign","_law_near","_law_how","_law_parts","_law_other","_law_swapped"] ["_law_text_here","_law_number_here"] (B6 jI):=by walk_at"sc"
theorem Kn(F:Fun K "_law_spoilt" "_law_spoilt" jI f fd)(B:Blt mg):FnOk P w K mg base C6 1 f fd ["_law_text_here","_law_number_here"] BE:=by
 refine F.ok BF (by walk_at"ln") (λcdv A outer s H vs Q E hr h=>?_);obtain⟨z,n,rfl,h0,bd,q⟩:=h;have hu:=F1 hr;have nd:=BF.nd;have hzl:z.length<=709:=by rw[A8];exact bd.ln
 have zl:=le_of_lt (E8 _ (show z.length<=100000 by omega));refine F4 (A4 (B0 (i:=2) nd rfl (Or.inl rfl) (A3 E6 (A3 J8 (qv 1) A2) (A3 (B5 K) (E7 (L8 K) rfl B.len boot_len (A0 (qv 0) A1)) A2)))
  (A4 (B0 (i:=3) nd rfl (Or.inl rfl) A5)
  (A4 (B0 (i:=4) nd rfl (Or.inl rfl) (E4 K hu (qv 3) (A3 E6 (A3 J8 (qv 1) A2) (E7 (L8 K) rfl B.len boot_len (A0 (qv 3) A1))) (λ_ _=>rfl)))
  (X9 (B9 (D0 J0 (A3 E6 (qv 1) A2) A2 rfl) (A4 (wJ (n:=5) nd rfl (Or.inl rfl) rfl (.inr ⟨_,rfl⟩) (hV rfl B.range (A0 (E7 (L8 K) rfl B.len boot_len (A0 (qv 0) A1)) A1)) (LcStG.ok (sc:=B6 jI) (N:=["_law_text_here","_law_number_here","_law_at","_law_some","_law_sign","_law_near","_law_how","_law_parts","_law_other","_law_swapped"]) (fr:=[("_law_text_here",0)]) (by walk_at"s7") rfl rfl) (λ_ _ _ _=>(mI (D0 Q6 (E4 K hu (qv 1) (qv 0) (λ_ _=>rfl)) A5 rfl))) (λ_ _ _ _=>(qv 0)))
  (A7 (B9 (D0 (IH K hu) (qv 5) (G4 A1) rfl) (A7 (B0 (i:=2) nd rfl (Or.inl rfl) (E4 K hu (qv 5) (A3 E6 (A3 J8 (qv 1) A2) (E7 (L8 K) rfl B.len boot_len (A0 (qv 5) A1))) (λ_ _=>rfl)))) C1))) C1)
  (A4 (B0 (i:=6) nd rfl (Or.inl rfl) (A3 E6 (A3 J8 (qv 1) A2) A2))
  (A4 (B9 (D0 J0 (qv 6) A2 rfl) (A7 (B3 (A3 (B5 K) (A3 (B5 K) (O7 (qv 0) R8 (L7 (qv 2))) (qv 4)) (O7 (qv 0) (L7 (qv 2)) R8)))) C1)
  (A4 (B9 (D0 J0 (qv 6) A2 rfl) (A7 (B3 (A3 (B5 K) (O7 (qv 0) R8 (L7 (qv 2))) (O7 (qv 0) (L7 (A3 (B5 K) (qv 2) A2)) R8)))) C1)
  (A4 (B9 (D0 J0 (qv 6) A2 rfl) (A7 (B3 (A3 (B5 K) (A3 (B5 K) (O7 (qv 0) R8 (L7 (qv 2))) (qv 4)) (O7 (qv 0) (L7 (A3 (B5 K) (qv 2) A2)) R8)))) C1)
  (A4 (B0 (i:=7) nd rfl (Or.inl rfl) (K4 K PySem.F.plainAttrs_str PySem.F.slot_str_split PySem.F.type_str_split mW (qv 0) (A0 A5 A1)))
  (A4 (B0 (i:=2) nd rfl (Or.inl rfl) (A3 E6 (A3 J8 (qv 1) A2) (E7 (L8 K) rfl B.len boot_len (A0 (qv 7) A1))))
  (A4 (B0 (i:=8) nd rfl (Or.inl rfl) (A3 E6 (A3 J8 (qv 1) A2) (E7 (L8 K) rfl B.len boot_len (A0 (qv 7) A1))))
  (A4 (B0 (i:=9) nd rfl (Or.inl rfl) (U4 (Gz K) rfl B.list PyProof.Rows.boot_list (A0 (qv 7) A1)))
  (A4 (dN hu (E4 K hu (qv 7) (qv 8) (λ_ _=>rfl)) (qv 9) (qv 2))
  (A4 (dN hu (E4 K hu (qv 7) (qv 2) (λ_ _=>rfl)) (qv 9) (qv 8))
  (A7 (B3 (K4 K PySem.F.plainAttrs_str PySem.F.slot_str_join PySem.F.type_str_join (dS K) (E4 K hu (G4 (A0 A5 (A0 A5 (A0 A5 (A0 A5 (A0 A5 A1)))))) (A3 E6 (A3 J8 (qv 1) A2) A2) (λ_ _=>rfl)) (A0 (qv 9) A1)))))))))))))))))) ?_
 have asc1:∀{c:Nat},c<128->Bd 1 1 [c]:=λh=>⟨λd hd=>by rw[mem_singleton.mp hd];exact h,le_refl _,by unfold D7;exact List.count_le_length⟩
 have one:∀{y:Str}{H':Hp},(∃L C,L<=6000/\C<=60/\Bd L C y.cps.toList)->Same H H'->Q (.str y) H':=λ⟨L,C,h1,h2,h3⟩ sm=>q _ _ (h3.tx h1 h2) sm
 have hmod:∀(i:Int){k:Nat},0<k->∃m:Nat,m<k/\i % ((k:Nat):Int)=((m:Nat):Int):=λi k hk=>⟨(i % (k:Int)).toNat,by
  have h1:=Int.emod_nonneg i (show(k:Int)≠0 by omega);have h2:=Int.emod_lt_of_pos i (show(0:Int)<k by omega);omega,by
  have h1:=Int.emod_nonneg i (show(k:Int)≠0 by omega);omega⟩
 obtain⟨a0,ha0,ea0⟩:=hmod (n / 8) (show 0<z.length+1 by omega);have hsl:("[]{},: -0123456789abzAZ\"'#;.()\n_+" : Str).length=33:=by decide +kernel
 have hsa:∀d∈("[]{},: -0123456789abzAZ\"'#;.()\n_+" : Str).cps.toList,d<128:=by decide +kernel
 obtain⟨a1,ha1,ea1⟩:=hmod (n / 5000) (show 0<33 by decide);obtain⟨c,ec⟩:∃c,("[]{},: -0123456789abzAZ\"'#;.()\n_+" : Str).cps.toList[a1]?=some c:=⟨_,getElem?_eq_getElem (by rw[←A8,hsl];exact ha1)⟩
 have hc:c<128:=hsa c (mem_of_getElem? ec);refine⟨_,rfl,_,_,rfl,rfl,⟨!3,!3⟩,_,rfl,N9 zl (J3 ⟨_,_,rfl,rfl,(by show(0:Int)<_;omega),?_⟩)⟩;show X2 _ _ _ (List.set _ 2 (some (V.int (n / 8 % (((z.length:Nat):Int)+1))))) _;rw[show(((z.length:Nat):Int)+1)=((z.length+1:Nat):Int) by omega,ea0];refine⟨_,rfl,_,rfl,_,_,rfl,rfl,⟨!3,!3⟩,_,rfl,N9 (by rw[hsl];exact G7 (!3)) ⟨_,_,rfl,rfl,(by show(0:Int)<_;rw[hsl];decide),?_⟩⟩;rw[hsl];show N0 K _ (V.int (n / 5000 % ((33:Nat):Int))) _ _;rw[ea1];refine O6 (by rw[hsl];exact G7 (!3)) (L1 ec) ?_;refine⟨fun σ H'=>∃(a:Nat)(x5:Option V),σ=[some (.str z),some (.int n),some (.int (a:Nat)),some (.str "[]{},: -0123456789abzAZ\"'#;.()\n_+"),some (.str ⟨#[c]⟩),x5,none,none,none,none]/\a<=z.length/\Same H H',?_,?_⟩
 ·refine⟨_,rfl,_,_,rfl,rfl,(by show(0:Int)<2;decide),rfl,_,rfl,L3 (λ_=>?_) (λ_=>⟨a0,none,rfl,!1,Same.refl H⟩)⟩
  refine⟨_,rfl,N9 zl ⟨((z.length:Nat):Int),rfl,!1,!1,gW (gY (lo:=0) (n:=((z.length:Nat):Int).toNat)) (λi ys H'=>H=H'/\∃ks:List Nat,ys=ks.map (λk:Nat=>V.int (k:Int))/\ks.length<=i/\∀k∈ks,k<z.length) (G7 (!1)) ⟨rfl,[],rfl,le_refl _,λk hk=>(by cases hk)⟩ (λi ys H' hi p=>?_) (λi x ys H1 H2 hi p y=>?_) (λys H' p r hr'=>?_)⟩⟩
  ·obtain⟨rfl,ks,rfl,hkl,_⟩:=p
   exact⟨trivial,by rw[length_map];exact hkl⟩
  ·obtain⟨rfl,ks,rfl,hkl,hk⟩:=p
   obtain⟨rfl,rfl⟩:=y;have hi':i<z.length:=by omega
   obtain⟨ck,hck⟩:∃ck,z.cps.toList[i]?=some ck:=⟨_,getElem?_eq_getElem (by rw[←A8];exact hi')⟩
   refine⟨_,rfl,rfl,_,rfl,_,rfl,?_⟩;rw[Int.zero_add];refine O6 zl (L1 hck) ⟨_,_,rfl,rfl,_,rfl,L3 (λ_=>⟨_,rfl,rfl,ks++[i],by rw[map_append];rfl,by rw[length_append];show _+1<=_;omega,λk hk'=>?_⟩) (λ_=>⟨rfl,ks,rfl,!1,hk⟩)⟩;rcases mem_append.mp hk' with hk'|hk'
   ·exact hk k hk'
   ·rw[mem_singleton.mp hk'];exact hi'
  ·obtain⟨rfl,ks,rfl,hkl,hk⟩:=p
   have s1:=B2 hr' (.lst (ks.map λk:Nat=>V.int (k:Int)));have h1:upd H r (.lst (ks.map λk:Nat=>V.int (k:Int))) r=some (.lst (ks.map λk:Nat=>V.int (k:Int))):=A6;generalize upd H r (.lst (ks.map λk:Nat=>V.int (k:Int)))=H1 at s1 h1 ⊢;refine⟨_,rfl,zero_le _,λe0 he0=>⟨r,e0,_,rfl,rfl,SqL.of (J9 (E5 h1 he0) h1),A6,_,rfl,?_⟩⟩;have s2:=s1.trans (B2 he0 (.lst []));have h2:=B2 he0 (.lst []) _ _ h1;generalize upd H1 e0 (.lst [])=H2 at s2 h2 ⊢;cases ks with
   |nil=>exact C0 ⟨a0,some (.ref r),rfl,!1,s2⟩
   |cons k0 kr=>
    obtain⟨m,hm,em⟩:=hmod (n / 8) (show 0<(k0::kr).length by simp);obtain⟨k,ek⟩:∃k,(k0::kr)[m]?=some k:=⟨_,getElem?_eq_getElem hm⟩
    refine C8 ⟨_,rfl,_,rfl,_,_,rfl,rfl,⟨!3,!3⟩,_,rfl,bL (SqL.of h2) ⟨_,_,rfl,rfl,(by rw[length_map];show(0:Int)<(((k0::kr).length:Nat):Int);rw[length_cons];omega),?_⟩⟩;rw[length_map];show N0 K _ (V.int (n / 8 % (((k0::kr).length:Nat):Int))) _ _;rw[em];refine N2 (SqL.of h2) (v:=.int (k:Int)) (L1 (by rw[getElem?_map,ek];rfl)) ⟨k,some (.ref r),rfl,le_of_lt (hk k (mem_of_getElem? ek)),s2⟩
 ·rintro _ H1 ⟨a,x5,rfl,ha,s1⟩
  have bpre:Bd 709 12 (Txt.slice z none (some ((a:Nat):Int))).cps.toList:=by rw[oY z a ha];exact bd.sub (List.take_sublist _ _)
  have bpost:Bd 709 12 (Txt.slice z (some ((a:Nat):Int)) none).cps.toList:=by rw[jA z a ha];exact bd.sub (List.drop_sublist _ _)
  have bpos1:Bd 709 12 (Txt.slice z (some (((a:Nat):Int)+1)) none).cps.toList:=by rw[Km z ha];exact bd.sub (List.drop_sublist _ _)
  have bc:Bd 1 1 (⟨#[c]⟩:Str).cps.toList:=asc1 hc;have lg:∀{x y:Str}{L C L' C':Nat},Bd L C x.cps.toList->Bd L' C' y.cps.toList->L+L'<=100000->x.length+y.length<=sizeLine:=λh h' hh=>le_of_lt (E8 _ (by rw[A8,A8];have:=h.ln;have:=h'.ln;omega))
  have ap:∀{x y:Str}{L C L' C':Nat},Bd L C x.cps.toList->Bd L' C' y.cps.toList->Bd (L+L') (C+C') (x++y).cps.toList:=λh h'=>by rw[PyProof.Rows.cps_toList_append];exact h.app h'
  refine⟨_,rfl,_,_,rfl,rfl,⟨!3,!3⟩,_,_,rfl,rfl,(by show(0:Int)<4;decide),?_⟩;refine⟨_,rfl,rfl,_,rfl,L3 (λ_=>?_) (λ_=>⟨_,rfl,rfl,_,rfl,L3 (λ_=>?_) (λ_=>⟨_,rfl,rfl,_,rfl,L3 (λ_=>?_) (λ_=>?_)⟩)⟩)⟩
  ·exact⟨_,rfl,_,rfl,_,rfl,z,rfl,zl,_,rfl,K3 (lg bpre bc (!3)) ⟨_,rfl,_,rfl,_,rfl,z,rfl,zl,K3 (lg (ap bpre bc) bpost (!3)) (one ⟨_,_,!3,!3,ap (ap bpre bc) bpost⟩ s1)⟩⟩
  ·exact⟨_,rfl,_,rfl,_,rfl,z,rfl,zl,_,rfl,_,rfl,J3 ⟨_,rfl,z,rfl,zl,K3 (lg bpre bpos1 (!3)) (one ⟨_,_,!3,!3,ap bpre bpos1⟩ s1)⟩⟩
  ·exact⟨_,rfl,_,rfl,_,rfl,z,rfl,zl,_,rfl,K3 (lg bpre bc (!3)) ⟨_,rfl,_,rfl,J3 ⟨_,rfl,z,rfl,zl,K3 (lg (ap bpre bc) bpos1 (!3)) (one ⟨_,_,!3,!3,ap (ap bpre bc) bpos1⟩ s1)⟩⟩⟩
  ·have hsm:=qQ z ⟨#[44,32]⟩
   refine⟨_,rfl,rfl,z,", ",rfl,rfl,!0,zl,by rw[eZ];exact le_of_lt (E8 _ (!1)),λpt hpt=>?_⟩;have ecm:Txt.split z ", "=Txt.split z ⟨#[44,32]⟩:=by rw[eZ]
   rw[ecm];have hmem:∀w∈Txt.split z ⟨#[44,32]⟩,Bd 709 12 w.cps.toList:=λw hw=>by
    obtain⟨u,v,e⟩:=qP hw;refine bd.sub ?_;rw[e];exact(List.sublist_append_left _ _).trans (List.sublist_append_right _ _)
   have hsum:=BC (Txt.split z ⟨#[44,32]⟩);rw[iO]at hsum;have hs1:=bd.ln;have hs2:=bd.co;have hpos:0<(Txt.split z ⟨#[44,32]⟩).length:=List.length_pos_iff.mpr (xV _ _);generalize Txt.split z ⟨#[44,32]⟩=ws at hsm hmem hsum hpos ⊢;have s2:=B2 hpt (.lst (ws.map V.str));have hp2:upd H1 pt (.lst (ws.map V.str)) pt=some (.lst (ws.map V.str)):=A6;generalize upd H1 pt (.lst (ws.map V.str))=H2 at s2 hp2 ⊢;obtain⟨i,hi,ei⟩:=hmod (n / 8) hpos;obtain⟨j,hj,ej⟩:=hmod (n / 64) hpos;obtain⟨wi,ewi⟩:∃w,ws[i]?=some w:=⟨_,getElem?_eq_getElem hi⟩
   obtain⟨wj,ewj⟩:∃w,ws[j]?=some w:=⟨_,getElem?_eq_getElem hj⟩
   have vat:∀{k:Nat}{w:Str},ws[k]?=some w->I0 (ws.map V.str) ((k:Nat):Int)=some (.str w):=λe=>L1 (by rw[getElem?_map,e];rfl)
   refine⟨_,rfl,_,_,rfl,rfl,⟨!3,!3⟩,_,rfl,bL (SqL.of hp2) ⟨_,_,rfl,rfl,(by rw[length_map];show(0:Int)<((ws.length:Nat):Int);omega),?_⟩⟩;rw[length_map];show X2 _ _ _ (List.set _ 2 (some (V.int (n / 8 % ((ws.length:Nat):Int))))) _;rw[ei];refine⟨_,rfl,_,_,rfl,rfl,⟨!3,!3⟩,_,rfl,bL (SqL.of hp2) ⟨_,_,rfl,rfl,(by rw[length_map];show(0:Int)<((ws.length:Nat):Int);omega),?_⟩⟩;rw[length_map];show X2 _ _ _ (List.set _ 8 (some (V.int (n / 64 % ((ws.length:Nat):Int))))) _;rw[ej];refine⟨_,rfl,Gb (SqL.of hp2) λsw hsw=>?_⟩;have hps:pt≠sw:=E5 hp2 hsw;have hs3:upd H2 sw (.lst (ws.map V.str)) sw=some (.lst (ws.map V.str)):=A6;have hsH:H sw=none:=(s1.trans s2).free hsw;have S3:Same H (upd H2 sw (.lst (ws.map V.str))):=(s1.trans s2).put hsH;have hp3:upd H2 sw (.lst (ws.map V.str)) pt=some (.lst (ws.map V.str)):=J9 hps hp2;generalize upd H2 sw (.lst (ws.map V.str))=H3 at hs3 S3 hp3 ⊢;refine⟨_,rfl,_,rfl,N2 (SqL.of hp3) (vat ewj) ⟨_,rfl,_,rfl,BD hs3 (by rw[length_map];exact hi) ?_⟩⟩;have hs4:upd H3 sw (.lst ((ws.map V.str).set i (.str wj))) sw=some (.lst ((ws.map V.str).set i (.str wj))):=A6;have S4:Same H (upd H3 sw (.lst ((ws.map V.str).set i (.str wj)))):=S3.put hsH;have hp4:upd H3 sw (.lst ((ws.map V.str).set i (.str wj))) pt=some (.lst (ws.map V.str)):=J9 hps hp3;generalize upd H3 sw (.lst ((ws.map V.str).set i (.str wj)))=H4 at hs4 S4 hp4 ⊢;refine⟨_,rfl,_,rfl,N2 (SqL.of hp4) (vat ewi) ⟨_,rfl,_,rfl,BD hs4 (by rw[List.length_set,length_map];exact hj) ?_⟩⟩;have eset:((ws.map V.str).set i (.str wj)).set j (.str wi)=((ws.set i wj).set j wi).map V.str:=by rw[List.map_set,List.map_set]
   rw[eset];have S5:Same H (upd H4 sw (.lst (((ws.set i wj).set j wi).map V.str))):=S4.put hsH;have hs5:upd H4 sw (.lst (((ws.set i wj).set j wi).map V.str)) sw=some (.lst (((ws.set i wj).set j wi).map V.str)):=A6;generalize upd H4 sw (.lst (((ws.set i wj).set j wi).map V.str))=H5 at hs5 S5 ⊢;have hbi:=hmem wi (mem_of_getElem? ewi);have hbj:=hmem wj (mem_of_getElem? ewj);have t1:=qS (x:=wj) (ws:=ws) (i:=i);have t2:=qS (x:=wi) (ws:=ws.set i wj) (i:=j);have b1:=hbi.ln;have b2:=hbj.ln;have b3:=hbi.co;have b4:=hbj.co;rw[←A8]at b1 b2;have hlen:((ws.set i wj).set j wi).length=ws.length:=by rw[List.length_set,List.length_set]
   have hma:∀w∈(ws.set i wj).set j wi,∀d∈w.cps.toList,d<128:=λw hw=>by
    rcases List.mem_or_eq_of_mem_set hw with hw|rfl
    ·rcases List.mem_or_eq_of_mem_set hw with hw|rfl
     ·exact(hmem w hw).asc
     ·exact hbj.asc
    ·exact hbi.asc
   generalize (ws.set i wj).set j wi=us at t2 hlen hma hs5 ⊢;refine⟨(by show 5<=sizeLine;decide),λls hls=>⟨_,rfl,_,_,rfl,rfl,⟨!3,!3⟩,_,_,rfl,rfl,(by show(0:Int)<5;decide),?_⟩⟩;have s6:=B2 hls (.lst [.str ", ",.str ", ",.str ",",.str ",  ",.str " ,"]);obtain⟨m,hm,em⟩:=hmod (n / 4096) (show 0<5 by decide);show N0 K _ (V.int (n / 4096 % ((5:Nat):Int))) _ _;rw[em];have seps:∀s∈([", ",", ",",",",  "," ,"]:List Str),s.length<=3/\D7 s.cps.toList=0/\∀d∈s.cps.toList,d<128:=by decide +kernel
   obtain⟨sp,esp⟩:∃s,([", ",", ",",",",  "," ,"]:List Str)[m]?=some s:=⟨_,getElem?_eq_getElem hm⟩
   obtain⟨p1,p2,p3⟩:=seps sp (mem_of_getElem? esp);refine N2 (SqL.of A6) (v:=.str sp) (L1 (by
    show(([", ",", ",",",",  "," ,"]:List Str).map V.str)[m]?=_;rw[getElem?_map,esp];rfl)) ⟨rfl,_,rfl,sp,sw,us,rfl,rfl,SqL.of (s6 _ _ hs5),!1,by show P9 us+us.length<=_;omega,one ?_ (S5.trans s6)⟩
   have jb:=qR (D1:=sp) p3 hma;rw[p2]at jb;have hmul:us.length*sp.length<=us.length*3:=Nat.mul_le_mul_left _ p1;refine⟨_,_,?_,?_,by show Bd _ _ (Builtin.Str.glued sp us).cps.toList;rw[StrLaws.glued_eq_join];exact jb⟩
   ·omega
   ·omega
end
end K04
namespace K04
open PySem L2 Rg
section
variable{P:Program}{w:World}{K:Frag}{mg:Str->Option Value}{base:Heap}{f:Addr}{fd:FuncData}
theorem BG{α:Type}(l:List α)(g:α->V){H:Hp}{p:Addr}{xs:List V}{j:Int}{Q:VK}(h:H p=some (.lst xs))(h0:0<=j)(h1:j<(l.length:Int))(q:∀x∈l,Q (g x) H)(hx:xs=l.map g:=by rfl):N0 K (.ref p) (.int j) H Q:=by
 obtain⟨m,rfl⟩:∃m:Nat,j=(m:Int):=⟨j.toNat,!1⟩
 obtain⟨x,ex⟩:∃x,l[m]?=some x:=⟨_,getElem?_eq_getElem (!1)⟩
 subst hx;exact N2 (SqL.of h) (v:=g x) (L1 (by rw[getElem?_map,ex];rfl)) (q x (mem_of_getElem? ex))
def qT(L C:Nat)(z:Str):Bool:=z.cps.toList.all (λc=>decide (c<128))&&decide (z.cps.toList.length<=L)&&decide (D7 z.cps.toList<=C)
theorem T6{L C:Nat}{z:Str}(h:qT L C z=true):Bd L C z.cps.toList:=by
 unfold qT at h;rw[Bool.and_eq_true,Bool.and_eq_true]at h;exact⟨λc hc=>of_decide_eq_true (all_eq_true.mp h.1.1 c hc),of_decide_eq_true h.1.2,of_decide_eq_true h.2⟩
theorem cN(L C:Nat)(l:List Str){H:Hp}{p:Addr}{xs:List V}{j:Int}{Q:VK}(h:H p=some (.lst xs))(hb:l.all (qT L C)=true)(h0:0<=j)(h1:j<(l.length:Int))(q:∀x:Str,Bd L C x.cps.toList->Q (.str x) H)(hx:xs=l.map V.str:=by rfl):N0 K (.ref p) (.int j) H Q:=
 BG l V.str h h0 h1 (λx hm=>q x (T6 (all_eq_true.mp hb x hm))) hx
theorem jX(L:Nat){z:Str}{c:Nat}{k:Int}(e:z=⟨#[c]⟩)(hc:c<128)(hc':c≠58)(h0:0<=k)(hk:k<=(L:Int))(hL:L<=5000):MulOk z k/\Bd L 0 (Txt.mul z k).cps.toList:=by
 obtain⟨m,rfl⟩:∃m:Nat,k=(m:Int):=⟨k.toNat,!1⟩
 subst e;obtain⟨h1,h2⟩:=AZ (c:=c) (k:=m) (!1);refine⟨h1,?_⟩;rw[h2];exact⟨λd hd=>by rw[List.eq_of_mem_replicate hd];exact hc,by rw[length_replicate];omega,by unfold D7;rw[List.count_eq_zero.mpr λhm=>hc' (List.eq_of_mem_replicate hm).symm];exact le_refl _⟩
theorem Ko{k:Int}(h:18<=k)(h':k<=22):MulOk "{a: " k/\Bd 88 22 (Txt.mul "{a: " k).cps.toList:=by
 rcases(show k=18∨k=19∨k=20∨k=21∨k=22 by omega)with rfl|rfl|rfl|rfl|rfl
 all_goals exact⟨by unfold MulOk;decide +kernel,T6 (!0)⟩
def BH:Sp:=λvs H Q _=>∃n:Int,vs=[.int n]/\0<=n/\∀(y:Str) H',TxOk y->Same H H'->Q (.str y) H'
theorem BI:FnScope ["_law_number_here","_law_how","_law_rest","_law_ahead","_law_some","_law_deep","_law_one","_law_other"] ["_law_number_here"] (B6 pU):=by walk_at"sc"
theorem Kp(F:Fun K "_law_edge" "_law_edge" pU f fd)(B:Blt mg)(h_l_name:D8 P w K mg base "_law_name" 1 ["_law_number_here"] jQ):FnOk P w K mg base C6 2 f fd ["_law_number_here"] BH:=by
 refine F.ok BI (by walk_at"ln") (λcdv A outer s H vs Q E hr h=>?_);obtain⟨n,rfl,h0,q⟩:=h;have hu:=F1 hr;have nd:=BI.nd;have one:∀{y:Str}{H':Hp}{L C:Nat},Bd L C y.cps.toList->Same H H'->L<=6000->C<=60->Q (.str y) H':=λh3 sm h1 h2=>q _ _ (h3.tx h1 h2) sm
 have lg:∀{x y:Str}{L C L' C':Nat},Bd L C x.cps.toList->Bd L' C' y.cps.toList->L+L'<=100000->x.length+y.length<=sizeLine:=λh h' hh=>le_of_lt (E8 _ (by rw[A8,A8];have:=h.ln;have:=h'.ln;omega))
 have ap:∀{x y:Str}{L C L' C':Nat},Bd L C x.cps.toList->Bd L' C' y.cps.toList->Bd (L+L') (C+C') (x++y).cps.toList:=λh h'=>by rw[PyProof.Rows.cps_toList_append];exact h.app h'
 have ad:∀{x y:Str}{L C L' C':Nat}{H':Hp}{R:VK},Bd L C x.cps.toList->Bd L' C' y.cps.toList->L+L'<=100000->(∀z:Str,Bd (L+L') (C+C') z.cps.toList->R (.str z) H')->R6 K (.str x) (.str y) H' R:=λh h' hh r=>K3 (lg h h' hh) (r _ (ap h h'))
 have md:∀(i:Int){k:Int},0<k->0<=i % k/\i % k<k:=λi k hk=>⟨Int.emod_nonneg i (!1),Int.emod_lt_of_pos i hk⟩
 refine F4 (A4 (B0 (i:=1) nd rfl (Or.inl rfl) (A3 E6 (qv 0) A2))
  (A4 (B0 (i:=2) nd rfl (Or.inl rfl) (A3 J8 (qv 0) A2))
  (A4 (B9 (D0 J0 (qv 1) A2 rfl) (A4 (B0 (i:=3) nd rfl (Or.inl rfl) (A3 (B5 K) (E4 K hu (G4 (A0 A5 (A0 A5 A1))) (A3 E6 (qv 2) A2) (λ_ _=>rfl)) (E4 K hu (G4 (A0 A5 (A0 A5 (A0 A5 (A0 A5 (A0 A5 A1)))))) (A3 E6 (A3 J8 (qv 2) A2) A2) (λ_ _=>rfl))))
  (A7 (B3 (A3 (B5 K) (qv 3) (A3 Y1 A5 (E4 K hu (G4 (A0 A2 (A0 A2 (A0 A2 (A0 A2 (A0 A2 A1)))))) (A3 E6 (A3 J8 (qv 2) A2) A2) (λ_ _=>rfl))))))) C1)
  (A4 (B9 (D0 J0 (qv 1) A2 rfl) (A4 (B0 (i:=4) nd rfl (Or.inl rfl) (G4 (A0 A5 (A0 A5 (A0 A5 (A0 A5 (A0 A5 (A0 A5 (A0 A5 (A0 A5 (A0 A5 A1)))))))))))
  (A4 (B0 (i:=4) nd rfl (Or.inl rfl) (A3 (B5 K) (qv 4) (G4 (A0 A5 (A0 A5 (A0 A5 A1))))))
  (A7 (B3 (E4 K hu (qv 4) (A3 E6 (qv 2) A2) (λ_ _=>rfl)))))) C1)
  (A4 (B9 (D0 J0 (qv 1) A2 rfl) (A7 (B3 (A3 (B5 K) (A3 (B5 K) A5 (K4 K PySem.F.plainAttrs_str PySem.F.slot_str_join PySem.F.type_str_join (dS K) A5 (A0 (A3 II (G4 (A0 A5 A1)) (A3 (B5 K) A2 (A3 E6 (qv 2) A2))) A1))) A5))) C1)
  (A4 (B9 (D0 J0 (qv 1) A2 rfl) (A4 (B0 (i:=5) nd rfl (Or.inl rfl) (A3 (B5 K) A2 (A3 E6 (qv 2) A2)))
  (A7 (B3 (A3 (B5 K) (A3 (B5 K) (A3 Y1 A5 (qv 5)) (E4 K hu (G4 (A0 A5 (A0 A5 (A0 A5 A1)))) (A3 E6 (A3 J8 (qv 2) A2) A2) (λ_ _=>rfl))) (A3 Y1 A5 (qv 5)))))) C1)
  (A4 (B9 (D0 J0 (qv 1) A2 rfl) (A4 (B0 (i:=5) nd rfl (Or.inl rfl) (A3 (B5 K) A2 (A3 E6 (qv 2) A2)))
  (A7 (B3 (A3 (B5 K) (A3 (B5 K) (A3 Y1 A5 (qv 5)) (E4 K hu (G4 (A0 A5 (A0 A5 (A0 A5 A1)))) (A3 E6 (A3 J8 (qv 2) A2) A2) (λ_ _=>rfl))) (A3 Y1 A5 (qv 5)))))) C1)
  (A4 (B0 (i:=6) nd rfl (Or.inl rfl) (D9 h_l_name hr (!3) rfl (A0 (qv 2) A1)))
  (A4 (B0 (i:=7) nd rfl (Or.inl rfl) (D9 h_l_name hr (!3) rfl (A0 (A3 J8 (qv 2) A2) A1)))
  (A4 (B9 (D0 J0 (qv 1) A2 rfl) (A7 (B3 (A3 (B5 K) (A3 (B5 K) (A3 (B5 K) (A3 (B5 K) A5 (qv 6)) A5) (qv 7)) A5))) C1)
  (A4 (B9 (D0 J0 (qv 1) A2 rfl) (A7 (B3 (A3 (B5 K) (A3 (B5 K) (A3 (B5 K) (A3 (B5 K) A5 (qv 6)) A5) (qv 6)) A5))) C1)
  (A4 (B0 (i:=4) nd rfl (Or.inl rfl) (G4 (A0 A5 (A0 A5 (A0 A5 (A0 A5 (A0 A5 (A0 A5 (A0 A5 (A0 A5 (A0 A5 (A0 A5 (A0 A5 A1)))))))))))))
  (A4 (B0 (i:=4) nd rfl (Or.inl rfl) (A3 (B5 K) (qv 4) (G4 (A0 A5 (A0 A5 (A0 A5 A1))))))
  (A7 (B3 (E4 K hu (qv 4) (A3 E6 (qv 2) A2) (λ_ _=>rfl))))))))))))))))) ?_
 refine⟨_,rfl,_,_,rfl,rfl,(by show(0:Int)<8;decide),_,rfl,_,_,rfl,rfl,⟨!3,!3⟩,?_⟩;have r0:0<=n / 8:=by omega
 have hr5:0<=n / 8 / 5000:=by omega
 show X2 _ _ _ (List.set _ 2 (some (V.int (n / 8)))) _;generalize n / 8=r at r0 hr5 ⊢;refine⟨_,rfl,rfl,_,rfl,L3 (λ_=>?_) (λ_=>⟨_,rfl,rfl,_,rfl,L3 (λ_=>?_) (λ_=>⟨_,rfl,rfl,_,rfl,L3 (λ_=>?_) (λ_=>⟨_,rfl,rfl,_,rfl,L3 (λ_=>?_) (λ_=>⟨_,rfl,rfl,_,rfl,L3 (λ_=>?_) (λ_=>?_)⟩)⟩)⟩)⟩)⟩
 ·refine⟨(by show 2<=sizeLine;decide),λa na=>⟨_,rfl,_,_,rfl,rfl,(by show(0:Int)<2;decide),cN 1 0 ["","-"] A6 (!0) (md _ (!3)).1 (md _ (!3)).2 λs bs=>⟨(by show 5<=sizeLine;decide),λb nb=>⟨_,rfl,_,_,rfl,rfl,⟨!3,!3⟩,_,_,rfl,rfl,(by show(0:Int)<5;decide),cN 2 0 ["","","","0","00"] A6 (!0) (md _ (!3)).1 (md _ (!3)).2 λt bt=>ad bs bt (!3) λz bz=>?_⟩⟩⟩⟩
  refine⟨_,rfl,(by show 5<=sizeLine;decide),λc nc=>⟨_,rfl,_,_,rfl,rfl,⟨!3,!3⟩,_,_,rfl,rfl,(by show(0:Int)<5;decide),BG [59,60,61,62,5000] V.int A6 (md _ (!3)).1 (md _ (!3)).2 λk hk=>?_⟩⟩;obtain⟨k0,k1⟩:=(show ∀k∈([59,60,61,62,5000]:List Int),0<=k/\k<=5000 by decide) k hk;obtain⟨mo,mb⟩:=jX 5000 (z:="9") (c:=57) (k:=k) (!0) (!3) (!3) k0 k1 (!3);exact⟨_,_,rfl,rfl,mo,ad bz mb (!3) λy by'=>one by' (((B2 na _).trans (B2 nb _)).trans (B2 nc _)) (!3) (!3)⟩
 ·refine⟨(by show 9<=sizeLine;decide),λa na=>⟨_,rfl,(by show 3<=sizeLine;decide),λb nb=>dJ (B2 nb _ _ _ A6) A6 (by show 12<=sizeLine;decide) λc nc=>⟨_,rfl,_,rfl,_,_,rfl,rfl,(by show(0:Int)<12;decide),cN 9 0 ["","a"," a","a ","-0","0","00","-","abcdefgh","abcdefghi","a1","--1"] A6 (!0) (md _ (!3)).1 (md _ (!3)).2 λy by'=>one by' (((B2 na _).trans (B2 nb _)).trans (B2 nc _)) (!3) (!3)⟩⟩⟩
 ·refine⟨rfl,(by show 1<=sizeLine;decide),λa na=>⟨_,rfl,_,_,rfl,rfl,(by show(0:Int)<4;decide),J3 ⟨a,_,_,rfl,rfl,A6,?_,?_,?_,λp hp=>?_⟩⟩⟩
  ·have:=md r (k:=4) (!3);show _<=98+r % 4;omega
  ·have:=md r (k:=4) (!3);show 98+r % 4<_;omega
  ·have:=md r (k:=4) (!3);show 1*(98+r % 4).toNat<=sizeLine;exact le_of_lt (E8 _ (!1))
  have:=md r (k:=4) (!3);obtain⟨m,hm,hm'⟩:∃m:Nat,m<=101/\(98+r % 4).toNat=m:=⟨(98+r % 4).toNat,!1,rfl⟩
  have ef:(replicate (98+r % 4).toNat [V.str "1"]).flatten=(replicate m ("1" : Str)).map V.str:=by
   rw[hm'];clear hm' hm
   induction m with
   |zero=>rfl
   |succ m ih=>rw[replicate_succ,flatten_cons,ih];rfl
  have e1:("1" : Str).length=1:=by decide +kernel
  have hsum:P9 (replicate m ("1" : Str))=m:=by
   unfold P9;rw[List.map_replicate,e1];simp
  have hsumC:S0 (replicate m ("1" : Str))=0:=by
   unfold S0;rw[List.map_replicate,show D7 ("1" : Str).cps.toList=0 by decide +kernel];simp
  have jb:=qR (D1:=", ") (!0) (ws:=replicate m ("1" : Str)) λw hw=>by rw[List.eq_of_mem_replicate hw];decide +kernel
  rw[hsum,hsumC,length_replicate,show(", " : Str).length=2 by decide +kernel,show D7 (", " : Str).cps.toList=0 by decide +kernel]at jb;have jb:=jb.mono (L':=303) (C':=0) (!1) (!1);refine⟨", ",p,replicate m ("1" : Str),rfl,rfl,SqL.of (by rw[←ef];exact A6),(!0),?_,?_⟩
  ·show P9 _+_<=_
   rw[hsum,length_replicate];omega
  ·have jb':Bd 303 0 (Txt.join ", " (replicate m ("1" : Str))).cps.toList:=by show Bd _ _ (Builtin.Str.glued _ _).cps.toList;rw[StrLaws.glued_eq_join];exact jb
   exact ad (T6 (L:=1) (C:=0) (z:="[") (!0)) jb' (!3) λz bz=>ad bz (T6 (L:=1) (C:=0) (z:="]") (!0)) (!3) λy by'=>one by' ((B2 na _).trans (B2 hp _)) (!3) (!3)
 ·have hm:=md r (k:=5) (!3)
  obtain⟨mo,mb⟩:=jX 22 (z:="[") (c:=91) (k:=18+r % 5) (!0) (!3) (!3) (!1) (!1) (!3);obtain⟨mo',mb'⟩:=jX 22 (z:="]") (c:=93) (k:=18+r % 5) (!0) (!3) (!3) (!1) (!1) (!3);refine⟨_,rfl,_,_,rfl,rfl,(by show(0:Int)<5;decide),J3 ⟨_,rfl,_,_,rfl,rfl,mo,(by show 3<=sizeLine;decide),λa na=>⟨_,rfl,_,_,rfl,rfl,⟨!3,!3⟩,_,_,rfl,rfl,(by show(0:Int)<3;decide),cN 1 0 ["","1","a"] A6 (!0) (md _ (!3)).1 (md _ (!3)).2 λs bs=>ad mb bs (!3) λz bz=>⟨_,rfl,_,_,rfl,rfl,mo',ad bz mb' (!3) λy by'=>one by' (B2 na _) (!3) (!3)⟩⟩⟩⟩
 ·have hm:=md r (k:=5) (!3)
  obtain⟨mo,mb⟩:=Ko (k:=18+r % 5) (!1) (!1);obtain⟨mo',mb'⟩:=jX 22 (z:="}") (c:=125) (k:=18+r % 5) (!0) (!3) (!3) (!1) (!1) (!3);refine⟨_,rfl,_,_,rfl,rfl,(by show(0:Int)<5;decide),J3 ⟨_,rfl,_,_,rfl,rfl,mo,(by show 3<=sizeLine;decide),λa na=>⟨_,rfl,_,_,rfl,rfl,⟨!3,!3⟩,_,_,rfl,rfl,(by show(0:Int)<3;decide),cN 2 0 ["{}","1","[]"] A6 (!0) (md _ (!3)).1 (md _ (!3)).2 λs bs=>ad mb bs (!3) λz bz=>⟨_,rfl,_,_,rfl,rfl,mo',ad bz mb' (!3) λy by'=>one by' (B2 na _) (!3) (!3)⟩⟩⟩⟩
 ·have b1:=jV (eX r0)
  have b2:=jV (eX hr5);refine⟨_,rfl,r,rfl,r0,_,rfl,_,_,rfl,rfl,⟨!3,!3⟩,_,rfl,hr5,?_⟩;generalize aS r=x at b1 ⊢;generalize aS (r / 5000)=x' at b2 ⊢;refine⟨_,rfl,rfl,_,rfl,L3 (λ_=>?_) (λ_=>⟨_,rfl,rfl,_,rfl,L3 (λ_=>?_) (λ_=>?_)⟩)⟩
  ·exact⟨_,rfl,ad (T6 (L:=1) (C:=0) (!0)) b1 (!3) λz1 c1=>ad c1 (T6 (L:=5) (C:=1) (!0)) (!3) λz2 c2=>⟨_,rfl,ad c2 b2 (!3) λz3 c3=>ad c3 (T6 (L:=4) (C:=1) (!0)) (!3) λy by'=>one by' (Same.refl H) (!3) (!3)⟩⟩
  ·exact⟨_,rfl,ad (T6 (L:=2) (C:=0) (!0)) b1 (!3) λz1 c1=>ad c1 (T6 (L:=6) (C:=1) (!0)) (!3) λz2 c2=>⟨_,rfl,ad c2 b1 (!3) λz3 c3=>ad c3 (T6 (L:=6) (C:=1) (!0)) (!3) λy by'=>one by' (Same.refl H) (!3) (!3)⟩⟩
  ·refine⟨(by show 11<=sizeLine;decide),λa na=>⟨_,rfl,(by show 3<=sizeLine;decide),λb nb=>dJ (B2 nb _ _ _ A6) A6 (by show 14<=sizeLine;decide) λc nc=>⟨_,rfl,_,rfl,_,_,rfl,rfl,(by show(0:Int)<14;decide),cN 7 1 ["[]]","[","]","{","}","{a}","{a: }","{: 1}","{1: a}","[1,2]","[1, ]","{a: 1 }","[}","{]"] A6 (!0) (md _ (!3)).1 (md _ (!3)).2 λy by'=>one by' (((B2 na _).trans (B2 nb _)).trans (B2 nc _)) (!3) (!3)⟩⟩⟩
end
end K04
namespace K04
open PySem L2 Rg
section
variable{P:Program}{w:World}{K:Frag}{mg:Str->Option Value}{base:Heap}{f:Addr}{fd:FuncData}
theorem Kq(ns:List Int)(lo hi:Option Int):∃us:List Int,V8 (ns.map V.int) lo hi=us.map V.int/\us.length<=ns.length:=by
 unfold V8;rw[←map_drop,←map_take];exact⟨_,rfl,by rw[length_take,length_drop];omega⟩
theorem Kr{H H':Hp}(e:SameX H H'){a:Addr}{xs:List V}(h:H a=some (.lst xs)):H' a=some (.lst xs):=e a _ h (λps z=>by cases z)
def jY(Pt:Addr)(K:Frag):Sp:=λvs H Q _=>∃(a:Addr)(ns:List Int),vs=[.ref a]/\SqL K H a (ns.map V.int)/\ns.length<=63/\Z4 Pt H/\∀H',Q (.bl true) H'
theorem BJ:FnScope ["_law_script","_law_k","_law_cell","_law_number_here","_law_text_here","_law_other","_law_edge_here"] ["_law_script"] (B6 X0):=by walk_at"sc"
theorem Ks{Pt:Addr}(F:Fun K "law" "law" X0 f fd)(B:Blt mg)(h_l_mixed:D8 P w K mg base "_law_mixed" 1 ["_law_number_here","_law_k"] jO)(h_l_thing:D8 P w K mg base "_law_thing" 4 ["_law_number_here","_law_cell","_law_deep"] (eY 2))(h_l_text:D8 P w K mg base "_law_text" 8 ["_law_thing_here"] (fA Pt 2))(h_l_spoilt:D8 P w K mg base "_law_spoilt" 1 ["_law_text_here","_law_number_here"] BE)(h_l_edge:D8 P w K mg base "_law_edge" 2 ["_law_number_here"] BH)(h_l_good:D8 P w K mg base "_law_good" 49 ["_law_text_here"] BA):FnOk P w K mg base C6 50 f fd ["_law_script"] (jY Pt K):=by
 refine F.ok BJ (by walk_at"ln") (λcdv A outer s H vs Q E hr h=>?_);obtain⟨a,ns,rfl,hS,hn,tab,q⟩:=h;have hu:=F1 hr;have nd:=BJ.nd;refine F4 (A4 (iA PassesOwn.never rfl (Gu K rfl B.enum (A0 (Gs K (qv 0) R8 (L7 A2)) A1)) (wG K rfl (hZ (bP (i:=1) nd rfl (Or.inl rfl)) (hZ (bP (i:=2) nd rfl (Or.inl rfl)) wF))) (A4 (B0 (i:=3) nd rfl (Or.inl rfl) (D9 h_l_mixed hr (!3) rfl (A0 (qv 2) (A0 (qv 1) A1))))
  (A4 (B0 (i:=4) nd rfl (Or.inl rfl) (D9 h_l_text hr (!3) rfl (A0 (D9 h_l_thing hr (!3) rfl (A0 (qv 3) (A0 (qv 2) (A0 A2 A1)))) A1)))
  (A4 (B0 (i:=5) nd rfl (Or.inl rfl) (D9 h_l_spoilt hr (!3) rfl (A0 (qv 4) (A0 (D9 h_l_mixed hr (!3) rfl (A0 (qv 3) (A0 A2 A1))) A1))))
  (A4 (B0 (i:=6) nd rfl (Or.inl rfl) (D9 h_l_edge hr (!3) rfl (A0 (D9 h_l_mixed hr (!3) rfl (A0 (qv 2) (A0 (A3 (B5 K) A2 (qv 1)) A1))) A1)))
  (A7 (B9 (R9 (W2 (P3 (F8 K (D9 h_l_good hr (!3) rfl (A0 (qv 4) A1)) (λ_=>rfl))) (W2 (P3 (F8 K (D9 h_l_good hr (!3) rfl (A0 (qv 5) A1)) (λ_=>rfl))) (X8 (P3 (F8 K (D9 h_l_good hr (!3) rfl (A0 (qv 6) A1)) (λ_=>rfl))))))) (A7 (B3 N3)) C1)))))))
  (A7 (B3 (D9 h_l_good hr (!3) rfl (A0 A5 A1))))) ?_
 refine⟨_,rfl,_,rfl,Ga hS λp hp=>?_⟩;obtain⟨us,eu,hul⟩:=Kq ns none (some 20);rw[eu];have s0:=B2 hp (.lst (us.map V.int));have hp0:upd H p (.lst (us.map V.int)) p=some (.lst (us.map V.int)):=A6;have t0:=tab.mono s0;generalize upd H p (.lst (us.map V.int))=H0 at s0 hp0 t0 ⊢;refine⟨p,rfl,⟨_,SqL.of hp0⟩,gU (Go (xs:=us.map V.int)) (λi σ H'=>∃x1 x2 x3 x4 x5 x6:Option V,σ=[some (.ref a),x1,x2,x3,x4,x5,x6]/\H' p=some (.lst (us.map V.int))/\Z4 Pt H') ⟨_,_,_,_,_,_,rfl,hp0,t0⟩ (λi σ H' _ z=>?_) (λi x σ H1 H2 hi z y=>?_) (fun σ H1 z=>?_)⟩
 ·obtain⟨_,_,_,_,_,_,_,hp',_⟩:=z
  exact SqL.of hp'
 ·obtain⟨x1,x2,x3,x4,x5,x6,rfl,hp1,t1⟩:=z
  obtain⟨T,cv,rfl,hT,rfl,hx⟩:=y;obtain⟨ce,hce,rfl⟩:=mO hx;rw[length_map]at hi;have s2:=B2 hT (.tup [.int (i:Nat),.int ce]);have hT4:upd H1 T (.tup [.int (i:Nat),.int ce]) T=some (.tup [.int (i:Nat),.int ce]):=A6;generalize upd H1 T (.tup [.int (i:Nat),.int ce])=H2 at s2 hT4 ⊢;have hp2:=s2 _ _ hp1;have t2:=t1.mono s2;refine⟨T,_,rfl,SqT.of hT4,rfl,_,_,rfl,_,_,rfl,rfl,?_⟩;refine⟨_,rfl,_,rfl,ce,(i:Nat),rfl,!1,!1,?_⟩;have n0:=aR ce (i:Nat);refine⟨_,rfl,_,rfl,cK ce (i:Nat),ce,rfl,n0,λv H3 t s3 rt tl=>⟨t,v,rfl,rt.mono mM,tl,t2.mono s3,λz H4 x4' t4 bz=>?_⟩⟩;have hp4:=Kr x4' (s3 _ _ hp2);refine⟨_,rfl,_,rfl,cK ce (i:Nat),60,rfl,!3,!3,⟨z,_,rfl,aR _ _,bz,λy5 H5 k5 s5=>?_⟩⟩;refine⟨_,rfl,_,rfl,J3 ⟨ce,_,rfl,!1,!1,⟨_,rfl,aR _ _,λy6 H6 k6 s6=>?_⟩⟩⟩;refine⟨_,rfl,z,rfl,bz.tx (!3) (!3),λH7 s7=>⟨true,rfl,C0 ⟨_,rfl,y5,rfl,k5,λH8 s8=>⟨true,rfl,C0 ⟨_,rfl,y6,rfl,k6,λH9 s9=>⟨true,rfl,C0 ?_⟩⟩⟩⟩⟩⟩;have s49:=((s5.trans s6).trans s7).trans (s8.trans s9);exact⟨_,_,_,_,_,_,rfl,s49 _ _ hp4,t4.mono s49⟩
 ·obtain⟨x1,x2,x3,x4,x5,x6,rfl,hp1,t1⟩:=z
  exact⟨"",rfl,(T6 (L:=0) (C:=0) (z:="") (!0)).tx (!3) (!3),λH' _=>q H'⟩
end
end K04
namespace K04
open PySem L2 Rg
open PySem.W
theorem Ku{us:List Value}(h:us.length=1):∃a0,us=[a0]:=match us,h with|[_],_=>⟨_,rfl⟩
local macro_rules|`(tactic| walk_at"m1")=>`(tactic| exact λa a a a a a us hl=>by obtain⟨a0,e⟩:=Ku hl;subst e;rfl)
theorem Kv{us:List Value}(h:us.length=2):∃a0 a1,us=[a0,a1]:=match us,h with|[_,_],_=>⟨_,_,rfl⟩
local macro_rules|`(tactic| walk_at"m2")=>`(tactic| exact λa a a a a a us hl=>by obtain⟨a0,a1,e⟩:=Kv hl;subst e;rfl)
theorem Kw{us:List Value}(h:us.length=3):∃a0 a1 a2,us=[a0,a1,a2]:=match us,h with|[_,_,_],_=>⟨_,_,_,rfl⟩
local macro_rules|`(tactic| walk_at"m3")=>`(tactic| exact λa a a a a a us hl=>by obtain⟨a0,a1,a2,e⟩:=Kw hl;subst e;rfl)
local macro_rules|`(tactic| walk_at"m")=>`(tactic| first|walk_at"m1" |walk_at"m2" |walk_at"m3")
theorem all_mk{l:PySem.W.OpenLaw}{w:World}{K:Frag}{h:Heap}{mg:Str->Option Value}{fa fl Cr c0 Pt Xn0 Xn1 Xn2 Xn3 Xn4:Addr}(X:K.In h)(G:h.Ns mainGlobals mg)(hfa:mg "law"=some (.ref fa))
  {od an:Option Addr} {sl:Array (Option Value)} {oc kV dc pm cd ct:Value}
  (Cr_:ClsAt K "Reader" Cr) (nr:NoF K Cr ["text","place"])
  (p1:GlbAt K "is_name" jB)
  (p2:GlbAt K "is_number" jC)
  (p3:GlbAt K "word_key" pB)
  (p4:MthAt K Cr "__init__" "Reader.__init__" pH)
  (p5:MthAt K Cr "passes" "Reader.passes" pI)
  (p6:MthAt K Cr "stretch" "Reader.stretch" pJ)
  (p7:MthAt K Cr "ended" "Reader.ended" pK)
  (p8:GlbAt K "must_pass" pP)
  (p9:GlbAt K "read_atom" pN)
  (p10:GlbAt K "read_field" pO)
  (p11:GlbAt K "read_row" jD)
  (p12:GlbAt K "read_record" jE)
  (p13:GlbAt K "read_thing" eQ)
  (p14:GlbAt K "keys_of" pC)
  (p15:GlbAt K "parts_of" eO)
  (p16:GlbAt K "walked" pD)
  (p17:GlbAt K "size_of" pE)
  (p18:GlbAt K "spread" pG)
  (p19:GlbAt K "thing_text" pF)
  (p20:GlbAt K "thing_of" pM)
  (p21:GlbAt K "_law_mixed" pQ)
  (p22:GlbAt K "_law_name" pR)
  (p23:GlbAt K "_law_number" pS)
  (p24:GlbAt K "_law_thing" eR)
  (pL:Ah K "_law_in_order" T4 c0) (hch:codeHdIn K c0 Pt=true)
  (p26:GlbAt K "_law_text" cF)
  (p27:GlbAt K "_law_is_name" jF)
  (p28:GlbAt K "_law_is_number" jG)
  (p29:GlbAt K "_law_item" jH)
  (p30:GlbAt K "_law_closed" pT)
  (p31:GlbAt K "_law_right" eU)
  (p32:GlbAt K "_law_flags" pV)
  (p33:GlbAt K "_law_good" pW)
  (p34:GlbAt K "_law_spoilt" jI)
  (p35:GlbAt K "_law_edge" pU)
  (a:nsIn K mainGlobals "law"=some (some (.ref fl))) (lo:K.lookup fl=some ⟨oc,od,.func (fnOf "law" "law" (R5 X0) (O4 X0) (B6 X0) .none kV dc pm an cd ct),sl⟩)
  (c:codeIn K cd "law"=true) (k:keepIn K (.ref fl)=true)
  (g1:∃t,nsIn K mainGlobals "LETTERS"=some (some (.str "abcdefghijklmnopqrstuvwxyz" t)))
  (g2:∃t,nsIn K mainGlobals "LONGEST_NAME"=some (some (.int 8 t)))
  (g3:∃t,nsIn K mainGlobals "FIGURES"=some (some (.str "0123456789" t)))
  (g4:∃t,nsIn K mainGlobals "MOST_FIGURES"=some (some (.int 60 t)))
  (g5:∃t,nsIn K mainGlobals "LARGEST"=some (some (.int 100 t)))
  (g6:∃t,nsIn K mainGlobals "DEEPEST"=some (some (.int 20 t)))
  (xa0:nsIn K mainGlobals "BadThing"=some (some (.ref Xn0)))
  (xa1:nsIn K mainGlobals "GateError"=some (some (.ref Xn1)))
  (xa2:nsIn K mainGlobals "BadRow"=some (some (.ref Xn2)))
  (xa3:nsIn K mainGlobals "NoForm"=some (some (.ref Xn3)))
  (xa4:nsIn K mainGlobals "Loop"=some (some (.ref Xn4)))
  (xv:nsIn K mainGlobals "ValueError"=some none) (xw:keepIn K (.ref Xn0)=true) (xC1:nB K Xn0 Xn1 dY=true) (xC2:nC K Xn1 dY=true) (xk:XK4 K Xn0 Xn2 Xn3 Xn4)
  (z:Ag K ["len","isinstance","list","dict","sorted","reversed","range","int","bool","str","sum","zip","abs","min","max","all","enumerate","tuple"]):
  ∃fd:FuncData,(∀(s:Shared)(v:Value),BindsTo s fd ⟨[v],[]⟩ [("_law_script",v)])/\∀base:Heap,K.In base->base.Ns mainGlobals mg->BM mg base->FnOk l.prog w K mg base C6 50 fa fd ["_law_script"] (jY Pt K):=by
 have e:=hfa.symm.trans (mg_of X G a);cases e;have F36:=gD (st:=X0) lo c k;obtain⟨f3,d3,a3,F3⟩:=p3;have b3:=F3.binds (ps:=["word"]) (by walk_at"m1");have m3:=mg_of X G a3;have k3:=F3.kp;obtain⟨f11,d11,a11,F11⟩:=p11;have b11:=F11.binds (ps:=["reader","level"]) (by walk_at"m2");have m11:=mg_of X G a11;have k11:=F11.kp;obtain⟨f12,d12,a12,F12⟩:=p12;have b12:=F12.binds (ps:=["reader","level"]) (by walk_at"m2");have m12:=mg_of X G a12;have k12:=F12.kp;obtain⟨f13,d13,a13,F13⟩:=p13;have b13:=F13.binds (ps:=["reader","level"]) (by walk_at"m2");have m13:=mg_of X G a13;have k13:=F13.kp;obtain⟨f14,d14,a14,F14⟩:=p14;have b14:=F14.binds (ps:=["holder"]) (by walk_at"m1");have m14:=mg_of X G a14;have k14:=F14.kp;obtain⟨f15,d15,a15,F15⟩:=p15;have b15:=F15.binds (ps:=["thing"]) (by walk_at"m1");have m15:=mg_of X G a15;have k15:=F15.kp;obtain⟨f24,d24,a24,F24⟩:=p24;have b24:=F24.binds (ps:=["_law_number_here","_law_cell","_law_deep"]) (by walk_at"m3");have m24:=mg_of X G a24;have k24:=F24.kp;obtain⟨f26,d26,a26,F26⟩:=p26;have b26:=F26.binds (ps:=["_law_thing_here"]) (by walk_at"m1");have m26:=mg_of X G a26;have k26:=F26.kp;have cr:ClsF K Cr ["text","place"]:=⟨Cr_.cl,nr.all⟩;obtain⟨z1,z2,z3,z4,z5,z6,z7,z8,z9,z10,z11,z12,z13,z14,z15,z16,z17,z18,_⟩:=z;obtain⟨t1,g1⟩:=g1;obtain⟨t2,g2⟩:=g2;obtain⟨t3,g3⟩:=g3;obtain⟨t4,g4⟩:=g4;obtain⟨t5,g5⟩:=g5;obtain⟨t6,g6⟩:=g6;have GL:Glo mg:=⟨⟨_,mg_of X G g1⟩,⟨_,mg_of X G g2⟩,⟨_,mg_of X G g3⟩,⟨_,mg_of X G g4⟩,⟨_,mg_of X G g5⟩,⟨_,mg_of X G g6⟩⟩;have B:Blt mg:=⟨mg_none_of X G z1,mg_none_of X G z2,mg_none_of X G z3,mg_none_of X G z4,mg_none_of X G z5,mg_none_of X G z6,mg_none_of X G z7,mg_none_of X G z8,mg_none_of X G z9,mg_none_of X G z10,mg_none_of X G z11,mg_none_of X G z12,mg_none_of X G z13,mg_none_of X G z14,mg_none_of X G z15,mg_none_of X G z16,mg_none_of X G z17,mg_none_of X G z18⟩;refine⟨fnOf "law" "law" (R5 X0) (O4 X0) (B6 X0) .none kV dc pm an cd ct,λs v=>.of_eq rfl,λbase KB _ bm=>?_⟩;have Z:Tg l.prog w K mg base:=⟨λa=>mg_of X G a⟩;have hC:=codeHd_of_K KB hch;obtain⟨fL,_,_,_,_,_,_,_,_,aL,lL,cL,kL⟩:=pL;have FL:=gD (st:=T4) lL cL kL;have mVE:=mg_none_of X G xv;have xC:XCn K Xn0 Xn1:=⟨xC1,xC2⟩;have hN:=IQ Z xa0 xw xC;have mN0:=mg_of X G xa0;have mN1:=mg_of X G xa1;have mN2:=mg_of X G xa2;have mN3:=mg_of X G xa3;have mN4:=mg_of X G xa4;have H1:=p1.has Z (λF=>IS F B GL) (λF=>F.binds (by walk_at"m"));have H2:=p2.has Z (λF=>IT F B GL) (λF=>F.binds (by walk_at"m"));have Q3:=Jt (P:=l.prog) (w:=w) (mg:=mg) (base:=base) F3 B;have H3:D8 l.prog w K mg base "word_key" _ _ _:=⟨_,_,Q3,b3,k3,m3⟩;have H4:=p4.hasC Z Cr_ (λF=>IU F cr) (λF=>F.binds (by walk_at"m"));have H5:=p5.has Z cr.cls (λF=>IV F B cr) (λF=>F.binds (by walk_at"m"));have H6:=p6.has Z cr.cls (λF=>IZ F B cr) (λF=>F.binds (by walk_at"m"));have H7:=p7.has Z cr.cls (λF=>Ja F B cr) (λF=>F.binds (by walk_at"m"));have H8:=p8.hasX Z (λF=>Jb F B hN H5) (λF=>F.binds (by walk_at"m"));have H9:=p9.hasX Z (λF=>Jf F B GL hN H6 H1 H2) (λF=>F.binds (by walk_at"m"));have H10:=p10.hasX Z (λF=>Jg F B GL hN H6 H1 H3 H8) (λF=>F.binds (by walk_at"m"))
 skip
 skip
 have H13:M6 l.prog w K mg base "read_thing" 46 ["reader","level"] (T5 Cr Xn0 (21-(20:Nat)) (B7 20)):=⟨_,_,AQ B GL hN H5 H8 H10 H9 F13 b13 k13 m13 F11 b11 k11 m11 F12 b12 k12 m12 20 (!3),b13,k13,m13⟩;have Q14:=Jv (P:=l.prog) (w:=w) (mg:=mg) (base:=base) F14 B Q3 b3 m3;have H14:D8 l.prog w K mg base "keys_of" _ _ _:=⟨_,_,Q14,b14,k14,m14⟩;have H15:D8 l.prog w K mg base "parts_of" _ _ _:=⟨_,_,(Jx F15 B Q14 b14 k14 m14),b15,k15,m15⟩;have H16:=p16.has Z (λF=>Jy F B H15) (λF=>F.binds (by walk_at"m"));have H17:=p17.has Z (λF=>JA F B H16) (λF=>F.binds (by walk_at"m"));have H18:=p18.has Z (λF=>JC F B H15) (λF=>F.binds (by walk_at"m"));have H19:=p19.has Z (λF=>JG F B H18) (λF=>F.binds (by walk_at"m"));have H20:=p20.hasX Z (λF=>AW F B GL hN H4 H7 H13 H17) (λF=>F.binds (by walk_at"m"));have N1:=p20.has Z (λF=>Kj (AW F B GL hN H4 H7 H13 H17)) (λF=>F.binds (by walk_at"m"));have H21:=p21.has Z (λF=>JH F) (λF=>F.binds (by walk_at"m"));have H22:=p22.has Z (λF=>JK F B) (λF=>F.binds (by walk_at"m"));have H23:=p23.has Z (λF=>JN F B) (λF=>F.binds (by walk_at"m"));have H24:D8 l.prog w K mg base "_law_thing" 4 ["_law_number_here","_law_cell","_law_deep"] (eY 2):=⟨_,_,JP F24 B b24 k24 m24 H21 H22 H23,b24,k24,m24⟩;have H25:D8 l.prog w K mg base "_law_in_order" _ _ _:=⟨fL,_,JV lL cL B hC bm,FL.binds (ps:=["_law_names"]) (by walk_at"m"),kL,Z.m aL⟩;have H26:D8 l.prog w K mg base "_law_text" 8 ["_law_thing_here"] (fA Pt 2):=⟨_,_,JY F26 B b26 k26 m26 H25,b26,k26,m26⟩;have H27:=p27.has Z (λF=>Ka F B) (λF=>F.binds (by walk_at"m"));have H28:=p28.has Z (λF=>Kb F B) (λF=>F.binds (by walk_at"m"));have H29:=p29.has Z (λF=>Kc F B H27 H28) (λF=>F.binds (by walk_at"m"));have H30:=p30.has Z (λF=>Kd F B H27 H29) (λF=>F.binds (by walk_at"m"));have H31:=p31.has Z (λF=>Kg F B H29 H30) (λF=>F.binds (by walk_at"m"));have H32:=p32.has Z (λF=>Ki F B mVE mN0 mN2 mN3 mN4 mN1 xC xk H20) (λF=>F.binds (by walk_at"m"));have H33:=p33.has Z (λF=>Kk F B H31 H32 N1 H19) (λF=>F.binds (by walk_at"m"));have H34:=p34.has Z (λF=>Kn F B) (λF=>F.binds (by walk_at"m"));have H35:=p35.has Z (λF=>Kp F B H22) (λF=>F.binds (by walk_at"m"));exact Ks (P:=l.prog) (w:=w) (mg:=mg) (base:=base) F36 B H21 H24 H26 H34 H35 H33
theorem walk{l:PySem.W.OpenLaw}{q:Program}{loose:List Str}{XP:(Str->Option Value)->Heap->Prop}{YP:World->Heap->Prop}{d:DefRec}{K:Params->Frag}{c Pt:Addr}(hn:l.most=some 63)(hdf:d.params.defaults=[])
  (hY:∀(w:World)(h:Heap),YP w h->(K w.params).In h/\h.get? Pt=some (tabObj #[])) (hPk:∀w:World,(K w.params).lookup Pt=none) (hC:∀w:World,codeHdIn (K w.params) c Pt=true)
  (F:∀(w:World)(mg:Str->Option Value)(fa:Addr)(h:Heap),(K w.params).In h->h.Ns mainGlobals mg->mg d.name=some (.ref fa)->
   ∃fd:FuncData,(∀(s:Shared)(u:Value),BindsTo s fd ⟨[u],[]⟩ [("_law_script",u)])/\∀base:Heap,(K w.params).In base->base.Ns mainGlobals mg->BM mg base->FnOk l.prog w (K w.params) mg base C6 50 fa fd ["_law_script"] (jY Pt (K w.params))):
  PySem.W.WalkO q loose XP YP l.row.toRowW d [] (λf vs=>PySem.call f vs):=
 Rg.IN (n:=63) (k:=50) (x:="_law_script") (CX:=λ_=>C6) (sp:=λw=>jY Pt (K w.params)) hn (!3) hdf ⟨rfl,!3,!3⟩ hY hPk hC F (λ_ _ a ns hl hO hS=>⟨a,ns,rfl,hS,hl,.inl hO.1,λ_=>rfl⟩) λ_ _ _ _ _ z=>z
end K04
open PySem PySem.W PyProof.Rows
local macro_rules|`(tactic| walk_at"k_m")=>`(tactic| (refine' Rg.IK ?qa ?qi ?ql ?qc ?qk;(case qa=>k_is);(case qi=>k_is);(case ql=>k_is);(case qc=>k_is);(case qk=>k_is)))
local macro_rules|`(tactic| walk_at"k_g")=>`(tactic| (refine' Rg.IJ ?qa ?ql ?qc ?qk;(case qa=>k_is);(case ql=>k_is);(case qc=>k_is);(case qk=>k_is)))
local macro_rules|`(tactic| walk_at"k_c")=>`(tactic| (refine' Rg.IL ?qa ?qb ?qc ?qd ?qe ?qf ?qg;(case qa=>k_is);(case qb=>k_is);(case qc=>k_is);(case qd=>k_is);(case qe=>k_is);(case qf=>k_is);(case qg=>k_is)))
local macro_rules|`(command| lay_quick $_)=>do
 let c:=`PySem.Challenge.cw_recordgate_k04_thing_texts_refused_holds
 let mut z:=#[`PySem.Challenge.pw_recordgate_k04_thing_texts_refused,c.str "heap_39",c.str "view_39"]
 for k in[0:600] do z:=z.push (c.str s!"o_{k}")
 for k in([]:List String) do z:=z.push (c.str k)
 let mut y:Array (Lean.TSyntax `command):=#[]
 for n in z do y:=y.push (←`(command| theorem $(Lean.mkIdent ((`_root_.PySem.W.Fast).str ("tw"++toString n.hash))) : True:=trivial))
 return Lean.mkNullNode y
lay_quick x
set_option maxRecDepth 100000 in
set_option maxHeartbeats 0 in
theorem PySem.Challenge.cw_recordgate_k04_thing_texts_refused_holds : PySem.Challenge.rw_recordgate_k04_thing_texts_refused.Holds := by
 w_on;o_law;k_head;(case hw=>w_witness2)
 k_fill
 refine K04.walk (l:=PySem.Challenge.rw_recordgate_k04_thing_texts_refused) (c:=283) (Pt:=279) rfl rfl (λw h Y=>⟨km_in_of Y,km_tabs_of Y 279 (!2)⟩) (λw=>by kernel_rfl) (λw=>by kernel_rfl) ?F
 case F=>
  intro w mg fa h KX G hmg
  refine' K04.all_mk (c0:=283) (Pt:=279) KX G hmg ?Cr_ ?nr ?p1 ?p2 ?p3 ?p4 ?p5 ?p6 ?p7 ?p8 ?p9 ?p10 ?p11 ?p12 ?p13 ?p14 ?p15 ?p16 ?p17 ?p18 ?p19 ?p20 ?p21 ?p22 ?p23 ?p24 ?pL ?hch ?p26 ?p27 ?p28 ?p29 ?p30 ?p31 ?p32 ?p33 ?p34 ?p35 ?a ?lo ?c ?k ?g1 ?g2 ?g3 ?g4 ?g5 ?g6 ?xa0 ?xa1 ?xa2 ?xa3 ?xa4 ?xv ?xw ?xC1 ?xC2 ?xk ?z
  (case Cr_=>walk_at"k_c")
  (case nr=>exact⟨by k_is,by k_is,trivial⟩)
  (case pL=>refine' Rg.IO ?qa ?ql ?qc ?qk;(case qa=>k_is);(case ql=>k_is);(case qc=>k_is);(case qk=>k_is))
  (case hch=>kernel_rfl)
  (case a=>k_is)
  (case lo=>k_is)
  (case c=>k_is)
  (case k=>k_is)
  (case g1=>exact⟨_,by k_is⟩)
  (case g2=>exact⟨_,by k_is⟩)
  (case g3=>exact⟨_,by k_is⟩)
  (case g4=>exact⟨_,by k_is⟩)
  (case g5=>exact⟨_,by k_is⟩)
  (case g6=>exact⟨_,by k_is⟩)
  (case xa0=>k_is)
  (case xa1=>k_is)
  (case xa2=>k_is)
  (case xa3=>k_is)
  (case xa4=>k_is)
  (case xv=>k_is)
  (case xw=>k_is)
  (case xC1=>kernel_rfl)
  (case xC2=>kernel_rfl)
  (case xk=>exact⟨by kernel_rfl,by kernel_rfl,by kernel_rfl,by kernel_rfl,by kernel_rfl⟩)
  (case z=>exact⟨by k_is,by k_is,by k_is,by k_is,by k_is,by k_is,by k_is,by k_is,by k_is,by k_is,by k_is,by k_is,by k_is,by k_is,by k_is,by k_is,by k_is,by k_is,trivial⟩)
  all_goals first|walk_at"k_g" |walk_at"k_m"

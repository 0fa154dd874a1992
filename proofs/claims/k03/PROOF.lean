import PyProof.Rows.All
import Wide.All
import OpenK.AllK
import Wide.FinOn
import Lean
import PyProof.EqAt
import PyProof.EqKinds
import PyProof.TupleCall
import KE.KSortTup
import PyProof.ZipIter
import KE.KTurns
import PyProof.NeKinds
import PyProof.MeetsIn
import PyProof.DictIter
import PyProof.DictKind
import KE.KRevIter
import PyProof.FString5
import KE.KDictSum
import PyProof.CompMap
import PyProof.CompUse
import PyProof.WalksEnum
import PyProof.EnumMake
import PyProof.Rows.EnumRows
import KE.LcSums
import PyProof.Rows.MinMaxN
import PyProof.DictItems
import PyProof.IsiH_list
import PyProof.AttrMissHeap
import KE.KDictOf
import PyProof.FactsAll.zip_1
import KE.KItemsList
import PyProof.Rows.CountFlat
import PyProof.Rows.BitMore
import PyProof.Rows.StrWeight2
import PyProof.StrWalks
import PyProof.StrBlock2
import PyProof.StrCalls
import PyProof.CallStr
import KE.KIntText
import PyProof.SliceStr2
import PyProof.StrCalls2
import PyProof.StrLawsIdx
import PyProof.StrLaws
import PyProof.ExcInit
import PyProof.ExcClass3
import PyProof.InstLoad
import PyProof.InstStoreFacts
import PyProof.ExcBaseAll.ValueError
import PyProof.ExcArgsOwn
import PyProof.Rows.CatchOwn
import PyProof.ExcAttrAll.ValueError
import PyProof.RulesAs
import PyProof.RulesDel
import KE.KIsAll
import PyProof.IsiBase
import PyProof.StrLawsChain
import PyProof.StrLawsTight
import PyProof.Rows.StrFacts2
import PyProof.Rows.StrNews2
import KE.IntTextText
import PySem.Challenge.RW_recordgate_k03_thing_texts_go_round
import KE.KLam
import KE.KNestM
local macro_rules | `(!0) => `(by decide +kernel)
local macro_rules | `(!1) => `(by omega)
local macro_rules | `(!2) => `(by simp)
local macro_rules | `(!3) => `(by decide)
local macro_rules | `(!4) => `(by assumption)
open List (mem_filter mem_range filterMap_cons mem_cons_self mem_cons_of_mem mem_cons mem_append mem_append_left getElem?_set_self getElem?_set_ne mem_filterMap mem_append_right size_toArray length_cons map_cons length_map append_nil nodup_cons of_mem_zip replicate length length_take getElem?_append_right getElem?_append_left getElem?_map mem_of_getElem? length_append length_replicate length_drop all_cons any_cons reverse_cons length_singleton map_nil find?_cons any_eq_true mem_map mem_singleton forIn_nil forIn_cons lookup_cons toArray getElem?_reverse getElem?_eq_none length_reverse getElem?_eq_getElem range' getElem_mem ext_getElem getD_eq_getElem?_getD sum_cons map_map map_congr_left flatMap_cons drop_eq_getElem_cons zip_cons_cons drop_of_length_le zip_nil_left all_eq_true getElem_of_mem drop_length not_mem_nil drop_zero forIn_toArray nodup_range length_range range_succ flatMap_append nodup_nil map_append nodup_append map_id mem_of_mem_take map_take map_drop replicate_succ cons_append take_succ_cons nil_append append_assoc drop_drop take_succ any_append flatten_append flatten_cons replicate_succ' take_of_length_le mem_flatten any_nil flatten_nil filter_append length_filter_le pairwise_iff_getElem idxOf_append zipIdx_cons idxOf all_map take_succ_eq_append_getElem map_snd_zip reverse_append reverse_reverse dropLast_concat count_filter filter_sublist mem_replicate reverse_eq_nil_iff drop_left map take_left getElem?_take nodup_iff_pairwise_ne)
open Nat (lt_of_lt_of_le lt_irrefl ne_of_lt le_trans le_of_lt ne_of_gt le_refl zero_le le_of_eq lt_succ_self le_succ lt_of_le_of_lt lt_trans lt_succ_of_lt not_le lt_of_succ_lt one_pos succ_pos sub_zero lt_or_ge add_sub_cancel_left not_lt_zero lt_of_succ_lt_succ le_add_right succ_le_succ le_total zero_testBit eq_of_testBit_eq testBit_and testBit_or testBit_xor testBit_two_pow lt_trichotomy min_eq_left add_mul succ_mul mul_le_mul_right)
open Option (isSome_iff_exists getD_none isSome_map getD_some)
open PySem.W (instObj methodObj lookIn plainGet hasDictIn findIn handedIn plainGet_of isFn plainOver takerIn makesIn emptyDict keepIn kitOne kia_one kitx_none kitx_bool kitx_int kitx_str kitx_float kitx_list kitx_tuple kitx_dict kitx_own callWith_K callWith_K0 cellsFrom_some fnOf codeIn kitAny kia_tup nsIn mg_of mg_none_of Frag)
open PyProof.Rows (boot_isinstance boot_int boot_str boot_bool)
open PySem (list_append boot_len)
open Int (toNat_natCast one_mul)
open Classical (byContradiction)
set_option bootstrap.genMatcherCode false
set_option genSizeOf false
set_option compiler.extract_closed false
set_option Elab.async false
set_option linter.all false
set_option maxRecDepth 100000
namespace L2
open PySem PySem.Spec PyProof.Rows
abbrev A4:=Sum Int Str
def aF:A4->Value->Bool
 |.inl k,v=>Value.isInt k v
 |.inr x,v=>Value.isStrOf x v
def AC(w:World):A4->Int
 |.inl k=>hashInt k
 |.inr x=>hashStr w x
theorem T5:∀{k:A4}{v:Value},aF k v=true->(∃i t,k=Sum.inl i/\v=Value.int i t)∨(∃x t,k=Sum.inr x/\v=Value.str x t)
 |.inl i,v,h=>by
  obtain⟨t,e⟩:=Value.isInt_shape (k:=i) (v:=v) h;exact .inl ⟨i,t,rfl,e⟩
 |.inr x,v,h=>by
  obtain⟨t,e⟩:=Value.isStrOf_shape (x:=x) (v:=v) h;exact .inr ⟨x,t,rfl,e⟩
theorem AD(i:Int)(t:Tok):aF (.inl i) (.int i t)=true:=by simp[aF,Value.isInt]
theorem AE(x:Str)(t:Tok):aF (.inr x) (.str x t)=true:=by simp[aF,Value.isStrOf]
theorem AF(a b:Int):decide ((Sum.inl a:A4)=Sum.inl b)=(a==b):=by
 by_cases e:a=b
 ·subst e;simp
 ·have h:¬(Sum.inl a:A4)=Sum.inl b:=λq=>e (Sum.inl.inj q)
  rw[decide_eq_false h];exact(beq_eq_false_iff_ne.mpr e).symm
theorem AG(a b:Str):decide ((Sum.inr a:A4)=Sum.inr b)=decide (a=b):=by
 by_cases e:a=b
 ·subst e;simp
 ·have h:¬(Sum.inr a:A4)=Sum.inr b:=λq=>e (Sum.inr.inj q)
  rw[decide_eq_false h,decide_eq_false e]
theorem AH(a:Int)(b:Str):decide ((Sum.inl a:A4)=Sum.inr b)=false:=decide_eq_false (λq=>nomatch q)
theorem AI(a:Str)(b:Int):decide ((Sum.inr a:A4)=Sum.inl b)=false:=decide_eq_false (λq=>nomatch q)
def K3(prog:Program)(w:World):PySem.KeyKind prog w A4 where
 is:=aF
 hash:=AC w
 inj:=λv a b ha hb=>by
  rcases T5 ha with⟨i,t,rfl,rfl⟩|⟨x,t,rfl,rfl⟩
  ·rcases T5 hb with⟨j,u,rfl,e⟩|⟨y,u,rfl,e⟩
   ·injection e with e1 _;rw[e1]
   ·exact nomatch e
  ·rcases T5 hb with⟨j,u,rfl,e⟩|⟨y,u,rfl,e⟩
   ·exact nomatch e
   ·injection e with e1 _;rw[e1]
 byValue:=λk v h=>by
  rcases T5 h with⟨i,t,rfl,rfl⟩|⟨x,t,rfl,rfl⟩<;>rfl
 pyHash:=λhv h=>by
  rcases T5 hv with⟨i,t,rfl,rfl⟩|⟨x,t,rfl,rfl⟩
  ·exact wpAny_pyHash_int h
  ·exact wpAny_pyHash_str h
 eqBool:=λhu hv h=>by
  rcases T5 hu with⟨i,t,rfl,rfl⟩|⟨x,t,rfl,rfl⟩
  ·rcases T5 hv with⟨j,u,rfl,rfl⟩|⟨y,u,rfl,rfl⟩
   ·rw[AF]at h;exact wpAny_eqBool_int h
   ·rw[AH]at h;exact SeqAt.EqAt.int_str i t y u _ _ _ _ h
  ·rcases T5 hv with⟨j,u,rfl,rfl⟩|⟨y,u,rfl,rfl⟩
   ·rw[AI]at h;exact SeqAt.EqAt.str_int x t j u _ _ _ _ h
   ·rw[AG]at h;exact wpAny_eqBool_str h
 «strs»:=λk x t v h=>by
  rcases T5 h with⟨i,u,rfl,e⟩|⟨y,u,rfl,e⟩
  ·exact nomatch e
  ·injection e with e1 _
   subst e1;cases v<;>rfl
theorem AJ(prog:Program)(w:World)(i:Int)(t:Tok):(K3 prog w).is (.inl i) (.int i t)=true:=AD i t
theorem AK(prog:Program)(w:World)(x:Str)(t:Tok):(K3 prog w).is (.inr x) (.str x t)=true:=AE x t
end L2
namespace L2
open PySem PySem.Spec PyProof.Rows
inductive V where
 |non|bl (b:Bool)|int (i:Int)|str (x:Str)|byt (b:Array UInt8)|flt (b:UInt64)|ref (a:Addr)|ty (n:String)
 deriving DecidableEq
def RelV:V->Value->Prop
 |.non,u=>u=Value.none
 |.bl b,u=>u=Value.bool b
 |.int i,u=>∃t,u=Value.int i t
 |.str x,u=>∃t,u=Value.str x t
 |.byt b,u=>∃t,u=Value.bytes b t
 |.flt b,u=>∃t,u=Value.float b t
 |.ref a,u=>u=Value.ref a
 |.ty n,u=>u=Value.type n
abbrev Vals:List V->List Value->Prop:=Paired RelV
theorem Vals.length{xs:List V}{us:List Value}(r:Vals xs us):xs.length=us.length:=Paired.length r
theorem Vals.get:∀{xs:List V}{us:List Value}{i:Nat}{x:V},Vals xs us->xs[i]?=some x->∃u,us[i]?=some u/\RelV x u
 |_,_,_,_,.nil,e=>by simp at e
 |_,_,0,_,.cons r _,e=>by simp at e;subst e;exact⟨_,rfl,r⟩
 |_,_,i+1,x,.cons _ t,e=>by
  obtain⟨u,h1,h2⟩:=Vals.get (i:=i) (x:=x) t (by simpa using e);exact⟨u,by simpa using h1,h2⟩
theorem Vals.set{x:V}{u:Value}(r:RelV x u):∀{xs:List V}{us:List Value}(i:Nat),Vals xs us->Vals (xs.set i x) (us.set i u)
 |_,_,_,.nil=>.nil
 |_,_,0,.cons _ t=>.cons r t
 |_,_,i+1,.cons q t=>.cons q (Vals.set r i t)
theorem Vals.append:∀{xs ys:List V}{us ws:List Value},Vals xs us->Vals ys ws->Vals (xs++ys) (us++ws)
 |_,_,_,_,.nil,s=>s
 |_,_,_,_,.cons r t,s=>.cons r (Vals.append t s)
theorem Vals.take:∀{xs:List V}{us:List Value}(n:Nat),Vals xs us->Vals (xs.take n) (us.take n)
 |_,_,0,_=>.nil
 |_,_,_+1,.nil=>.nil
 |_,_,n+1,.cons r t=>.cons r (Vals.take n t)
theorem Vals.drop:∀{xs:List V}{us:List Value}(n:Nat),Vals xs us->Vals (xs.drop n) (us.drop n)
 |_,_,0,r=>r
 |_,_,_+1,.nil=>.nil
 |_,_,n+1,.cons _ t=>Vals.drop n t
def RelO:Option V->Option Value->Prop
 |some v,some u=>RelV v u
 |none,none=>True
 |_,_=>False
def KV{κ:Type}:List (κ×V)->List (κ×Value)->Prop:=Paired λ(p:κ×V) (q:κ×Value)=>p.1=q.1/\RelV p.2 q.2
def kV:A4->V
 |.inl i=>.int i
 |.inr x=>.str x
inductive HO where
 |lst (xs:List V)
 |tup (xs:List V)
 |dK (kvs:List (A4×V))|dT (kvs:List (List A4×V))
 |set (S:Int->Bool) (n:Nat)
 |ins (C dx:Addr) (fs:List (Str×V))
 |own (x:Addr)
 |xd (fs:List (Str×V))
 |met (f x:Addr)
 |rng (lo hi:Int)
 |frz (o:Obj) (u:HO)
 |tbl (ps:Array Value)
 |ext (φ:Heap->Prop)
abbrev Hp:=Addr->Option HO
def upd(H:Hp)(a:Addr)(o:HO):Hp:=λb=>if b=a then some o else H b
theorem A6{H:Hp}{a:Addr}{o:HO}:upd H a o a=some o:=by unfold upd;rw[if_pos rfl]
theorem A9{H:Hp}{a b:Addr}{o:HO}(h:b≠a):upd H a o b=H b:=by unfold upd;rw[if_neg h]
theorem U5{H:Hp}{a b:Addr}{o u:HO}(h:H a=some o)(h':H b=some u)(d:o≠u):a≠b:=by
 intro e;subst e;rw[h]at h';exact d (Option.some.inj h')
theorem E6{H:Hp}{a b:Addr}{o:HO}(h:H a=some o)(h':H b=none):a≠b:=by
 intro e;subst e;rw[h]at h';cases h'
section
variable(P:Program)(w:World)
def ObjOk(H:Hp)(h:Heap)(a:Addr):HO->Prop
 |.lst xs=>xs.length<=sizeLine/\∃(its:List Value)(n:Nat),Vals xs its/\h.get? a=some {cls:=.type "list",data:=.seq its.toArray n}
 |.tup xs=>xs.length<=sizeLine/\∃its:List Value,Vals xs its/\IsTup h a its.toArray
 |.dK kvs=>kvs.length<=sizeLine/\(a==sysModules)=false/\∃vs,KV kvs vs/\h.DictOf (K3 P w) a vs
 |.dT kvs=>kvs.length<=sizeLine/\(a==sysModules)=false/\∃xs:List (List A4×Addr×Value),
   Paired (λ(p:List A4×V) (q:List A4×Addr×Value)=>p.1=q.1/\H q.2.1=some (.tup (p.1.map kV))/\RelV p.2 q.2.2) kvs xs/\
   ∃o es ep,h.get? a=some o/\o.ExactDict/\o.data=.dict es ep/\es.toList=xs.map (entryOfKey (tupleKind (K3 P w)))/\(xs.map (·.1)).Nodup
 |.set S n=>h.SetOf (intKind P w) a S n
 |.ins C dx fs=>H dx=some (.own a)/\fs.length<=1000/\dx≠a/\h.get? a=some (instObj C dx)/\
   ∃mA,h.Ns1 dx mA/\(∀f,RelO (fs.lookup f) (mA f))/\PySem.Within mA (fs.map (·.1))
 |.own _=>∃o,h.get? a=some o
 |.xd fs=>∃mA,h.Ns1 a mA/\∀f,RelO (fs.lookup f) (mA f)
 |.rng lo hi=>∃t u v,h.get? a=some {cls:=.type "range",data:=.fields #[.int lo t,.int hi u,.int 1 v]}
 |.frz o u=>h.get? a=some o/\ObjOk H h a u
 |.tbl ps=>h.get? a=some {cls:=.none,data:=.fields ps}
 |.met f x=>h.get? a=some (methodObj (.ref f) (.ref x))
 |.ext φ=>φ h/\(∃o,h.get? a=some o)/\∀h1 h2:Heap,φ h1->(∀o,h1.get? a=some o->h2.get? a=some o)->φ h2
def HOk(H:Hp)(h:Heap):Prop:=∀a o,H a=some o->ObjOk P w H h a o
end
section
variable{P:Program}{w:World}{H H':Hp}{h h':Heap}{a:Addr}{o:HO}
theorem ObjOk.lt(x:ObjOk P w H h a o):a<h.objs.size:=by
 cases o with
 |lst xs=>obtain⟨_,_,_,_,e⟩:=x;exact Heap.lt_size e
 |tup xs=>obtain⟨_,_,_,p⟩:=x;exact p.lt
 |dK kvs=>obtain⟨_,_,_,_,o,_,_,e,_⟩:=x;exact Heap.lt_size e
 |dT kvs=>obtain⟨_,_,_,_,o,_,_,e,_⟩:=x;exact Heap.lt_size e
 |set S n=>obtain⟨o,_,_,_,e,_⟩:=x;exact Heap.lt_size e
 |ins C dx fs=>obtain⟨_,_,_,e,_⟩:=x;exact Heap.lt_size e
 |own y=>obtain⟨_,e⟩:=x;exact Heap.lt_size e
 |xd fs=>obtain⟨_,⟨_,_,_,e,_⟩,_⟩:=x;exact Heap.lt_size e
 |rng lo hi=>obtain⟨_,_,_,e⟩:=x;exact Heap.lt_size e
 |frz ob u=>obtain⟨e,_⟩:=x;exact Heap.lt_size e
 |tbl ps=>exact Heap.lt_size (show h.get? a=some _ from x)
 |met f y=>exact Heap.lt_size (show h.get? a=some _ from x)
 |ext φ=>obtain⟨_,⟨_,e⟩,_⟩:=x;exact Heap.lt_size e
theorem Paired.mapP{α β:Type}{F G:α->β->Prop}:∀{l₁:List α}{l₂:List β},Paired F l₁ l₂->(∀a b,F a b->G a b)->Paired G l₁ l₂
 |_,_,.nil,_=>.nil
 |_,_,.cons r t,f=>.cons (f _ _ r) (Paired.mapP t f)
theorem ObjOk.stay(x:ObjOk P w H h a o)(k:∀b u,(b=a∨H b=some (.own a))->h.get? b=some u->h'.get? b=some u)
  (ho:∀b,H b=some (.own a)->H' b=some (.own a)) (ht:∀b xs,H b=some (.tup xs)->H' b=some (.tup xs)):ObjOk P w H' h' a o:=by
 induction o with
 |lst xs=>obtain⟨z,its,n,r,e⟩:=x;exact⟨z,its,n,r,k _ _ (.inl rfl) e⟩
 |tup xs=>obtain⟨z,its,r,ob,e,c⟩:=x;exact⟨z,its,r,ob,k _ _ (.inl rfl) e,c⟩
 |dK kvs=>obtain⟨z,y,vs,r,ob,es,ep,e,c⟩:=x;exact⟨z,y,vs,r,ob,es,ep,k _ _ (.inl rfl) e,c⟩
 |dT kvs=>
  obtain⟨z,y,xs,r,ob,es,ep,e,c⟩:=x;exact⟨z,y,xs,Paired.mapP r λp q z=>⟨z.1,ht _ _ z.2.1,z.2.2⟩,ob,es,ep,k _ _ (.inl rfl) e,c⟩
 |set S n=>obtain⟨ob,es,ep,t,e,c⟩:=x;exact⟨ob,es,ep,t,k _ _ (.inl rfl) e,c⟩
 |ins C dx fs=>
  obtain⟨d,z,ne,e,mA,⟨od,es,ep,e2,c⟩,r⟩:=x;exact⟨ho _ d,z,ne,k _ _ (.inl rfl) e,mA,⟨od,es,ep,k _ _ (.inr d) e2,c⟩,r⟩
 |own y=>obtain⟨ob,e⟩:=x;exact⟨ob,k _ _ (.inl rfl) e⟩
 |xd fs=>obtain⟨mA,⟨od,es,ep,e,c⟩,r⟩:=x;exact⟨mA,⟨od,es,ep,k _ _ (.inl rfl) e,c⟩,r⟩
 |rng lo hi=>obtain⟨t,u,v,e⟩:=x;exact⟨t,u,v,k _ _ (.inl rfl) e⟩
 |frz ob u ih=>obtain⟨e,q⟩:=x;exact⟨k _ _ (.inl rfl) e,ih q⟩
 |tbl ps=>
  have e:h.get? a=some {cls:=.none,data:=.fields ps}:=x;show h'.get? a=some {cls:=.none,data:=.fields ps};exact k a _ (.inl rfl) e
 |met f y=>
  have e:h.get? a=some (methodObj (.ref f) (.ref y)):=x;show h'.get? a=some (methodObj (.ref f) (.ref y));exact k a _ (.inl rfl) e
 |ext φ=>obtain⟨p,⟨o,e⟩,st⟩:=x;exact⟨st _ _ p λo q=>k _ _ (.inl rfl) q,⟨o,k _ _ (.inl rfl) e⟩,st⟩
theorem HOk.lt(x:HOk P w H h)(e:H a=some o):a<h.objs.size:=(x a o e).lt
theorem HOk.fresh(x:HOk P w H h)(e:h.objs.size<=a):H a=none:=by
 cases q:H a with
 |none=>rfl
 |some u=>exact absurd (lt_of_lt_of_le (x.lt q) e) (lt_irrefl _)
theorem HOk.kept(x:HOk P w H h)(k:∀b u,h.get? b=some u->h'.get? b=some u):HOk P w H h':=λa o e=>
 (x a o e).stay (λb u _ q=>k b u q) (λ_ q=>q) λ_ _ q=>q
theorem HOk.laid(x:HOk P w H h)(k:∀b u,h.get? b=some u->h'.get? b=some u)(hp:h.objs.size<=a)(new:ObjOk P w (upd H a o) h' a o):HOk P w (upd H a o) h':=λb u e=>by
 have hn:=x.fresh hp;by_cases hb:b=a
 ·subst hb;rw[A6]at e;cases e;exact new
 ·rw[A9 hb]at e
  exact(x b u e).stay (λc v _ q=>k c v q) (λc q=>by rw[A9 (E6 q hn)];exact q) λc xs q=>by rw[A9 (E6 q hn)];exact q
end
def Rd(H:Hp)(a:Addr)(u:HO):Prop:=H a=some u∨∃o,H a=some (.frz o u)
theorem Rd.ok{P:Program}{w:World}{H:Hp}{h:Heap}{a:Addr}{u:HO}(r:Rd H a u)(x:HOk P w H h):ObjOk P w H h a u:=by
 rcases r with r|⟨o,r⟩
 ·exact x a u r
 ·obtain⟨_,q⟩:=x a _ r
  exact q
def cA:Option HO->Prop
 |some (.lst _)=>True
 |some (.dK _)=>True
 |some (.dT _)=>True
 |some (.set _ _)=>True
 |some (.ins _ _ _)=>True
 |some (.ext _)=>True
 |_=>False
section
variable{P:Program}{w:World}{H:Hp}{h h':Heap}{x e:Addr}{o':HO}
theorem HOk.write(ok:HOk P w H h)(mu:cA (H x))(he:e=x∨H e=some (.own x))(k:∀b u,b≠e->h.get? b=some u->h'.get? b=some u)(heo:∃u,h'.get? e=some u)
  (new:ObjOk P w (upd H x o') h' x o'):HOk P w (upd H x o') h':=λb u q=>by
 have nown:∀c y,H c=some (.own y)->c≠x:=λc y r z=>by subst z;rw[r]at mu;exact mu
 have ntup:∀c xs,H c=some (.tup xs)->c≠x:=λc xs r z=>by subst z;rw[r]at mu;exact mu
 by_cases hb:b=x
 ·subst hb;rw[A6]at q;cases q;exact new
 ·rw[A9 hb]at q
  by_cases hbe:b=e
  ·have q':H b=some (.own x):=by
    rcases he with z|z
    ·exact absurd (hbe.trans z) hb
    ·rw[hbe];exact z
   rw[q]at q';cases q';obtain⟨v,hv⟩:=heo;exact⟨v,by rw[hbe];exact hv⟩
  ·refine(ok b u q).stay (λc v hc r=>k c v ?_ r) (λc r=>by rw[A9 (nown c b r)];exact r) λc xs r=>by rw[A9 (ntup c xs r)];exact r
   rcases hc with rfl|hc
   ·exact hbe
   ·rintro rfl
    rcases he with z|z
    ·exact nown c b hc z
    ·rw[hc]at z;cases z;exact hb rfl
end
structure Un(fs ex:List Addr)(H H':Hp)(h h':Heap):Prop where
 keep:∀b o,h.get? b=some o->H b=none->b∉fs->b∉ex->h'.get? b=some o
 slot:∀b o,h.get? b=some o->H b=none->b∈fs->b∉ex->∃sl,h'.get? b=some {o with slots:=sl}
 free:∀b o,h.get? b=some o->H b=none->b∉ex->H' b=none
 there:∀b o,h.get? b=some o->b∉ex->∃o',h'.get? b=some o'
 tups:∀b xs,H b=some (.tup xs)->H' b=some (.tup xs)
 frzs:∀b o u,H b=some (.frz o u)->H' b=some (.frz o u)
 tbls:∀b ps,H b=some (.tbl ps)->∃more,H' b=some (.tbl (ps++more))
section
variable{fs fs' ex ex':List Addr}{H H1 H2:Hp}{h h1 h2 h':Heap}{a x e:Addr}{o:HO}
theorem Un.any(u:Un fs ex H H1 h h1){b:Addr}{ob:Obj}(q:h.get? b=some ob)(n:H b=none)(hx:b∉ex):∃sl,h1.get? b=some {ob with slots:=sl}:=by
 by_cases hb:b∈fs
 ·exact u.slot b ob q n hb hx
 ·exact⟨ob.slots,u.keep b ob q n hb hx⟩
theorem Un.kept(k:∀b u,h.get? b=some u->h'.get? b=some u):Un fs ex H H h h':=
 ⟨λb ob q _ _ _=>k b ob q,λb ob q _ _ _=>⟨ob.slots,k b ob q⟩,λ_ _ _ n _=>n,λb ob q _=>⟨ob,k b ob q⟩,λ_ _ q=>q,λ_ _ _ q=>q,λ_ ps q=>⟨#[],by rw[q];simp⟩⟩
theorem Un.refl:Un fs ex H H h h:=Un.kept λ_ _ q=>q
theorem Un.laid(k:∀b u,h.get? b=some u->h'.get? b=some u)(hp:h.objs.size<=a)(hn:H a=none):Un fs ex H (upd H a o) h h' where
 keep:=λb u q _ _ _=>k b u q
 slot:=λb u q _ _ _=>⟨u.slots,k b u q⟩
 free:=λb u q n _=>by rw[A9 (ne_of_lt (lt_of_lt_of_le (Heap.lt_size q) hp))];exact n
 there:=λb u q _=>⟨u,k b u q⟩
 tups:=λb xs q=>by rw[A9 (E6 q hn)];exact q
 frzs:=λb u xs q=>by rw[A9 (E6 q hn)];exact q
 tbls:=λb ps q=>⟨#[],by rw[A9 (E6 q hn),q];simp⟩
theorem Un.write(mu:cA (H x))(he:e=x∨H e=some (.own x))(k:∀b u,b≠e->h.get? b=some u->h'.get? b=some u)(heo:∃u,h'.get? e=some u):Un fs ex H (upd H x o) h h':=by
 have hx:∀b,H b=none->b≠x:=λb n z=>by subst z;rw[n]at mu;exact mu
 have hb:∀b,H b=none->b≠e:=λb n z=>by
  subst z;rcases he with r|r
  ·exact hx b n r
  ·rw[n]at r;cases r
 have hm:∀b u,H b=some u->¬cA (some u)->b≠x:=λb u q nm z=>by subst z;rw[q]at mu;exact nm mu
 refine⟨λb u q n _ _=>k b u (hb b n) q,λb u q n _ _=>⟨u.slots,k b u (hb b n) q⟩,λb u q n _=>by rw[A9 (hx b n)];exact n,λb u q _=>?_,
  λb xs q=>by rw[A9 (hm b _ q λz=>z)];exact q,λb u xs q=>by rw[A9 (hm b _ q λz=>z)];exact q,λb ps q=>⟨#[],by rw[A9 (hm b _ q λz=>z),q];simp⟩⟩
 by_cases hbe:b=e
 ·subst hbe;exact heo
 ·exact⟨u,k b u hbe q⟩
end
def eG(h:Heap)(H:Hp):List Addr:=(List.range h.objs.size).filter λa=>(H a).isSome
def T6(h:Heap)(H:Hp):Heap:=PySem.W.hideAll h (eG h H)
theorem AL(h:Heap)(H:Hp):(T6 h H).objs.size=h.objs.size:=PySem.W.hideAll_size _ _
theorem AM{h:Heap}{H:Hp}{b:Addr}{o:Obj}(e:h.get? b=some o)(n:H b=none):(T6 h H).get? b=some o:=
 PySem.W.hideAll_get _ e λhm=>by
  have q:(H b).isSome=true:=(mem_filter.mp hm).2;rw[n]at q;simp at q
theorem AN{h:Heap}{H:Hp}{b:Addr}{o:Obj}(e:(T6 h H).get? b=some o):h.get? b=some o/\H b=none:=by
 have e':h.get? b=some o:=PySem.W.of_hideAll (eG h H) e;refine⟨e',?_⟩;cases q:H b with
 |none=>rfl
 |some x=>
  have hm:b∈eG h H:=mem_filter.mpr ⟨mem_range.mpr (Heap.lt_size e'),by simp[q]⟩;have z:(T6 h H).get? b=none:=PySem.W.hideAll_none (eG h H) hm;rw[z]at e;cases e
def AO(g h:Heap)(L:Addr):List (Addr×Obj):=(List.range h.objs.size).filterMap λa=>if a=L∨(g.get? a).isSome=true then none else(h.get? a).map λo=>(a,o)
def C9(g h:Heap)(L d:Addr):List (Addr×Obj):=(AO g h L).filter λp=>decide (p.1≠d)
end L2
namespace L2
open PySem PySem.Spec PyProof.Rows
structure Mod(K:Frag)(mg:Str->Option Value)(base:Heap):Prop where
 kin:K.In base
 glob:base.Ns mainGlobals mg
 blt:∃mb,base.Ns builtinsNs mb/\∀x:Str,x≠"__name__"->mb x=bootBuiltins x
 nolimit:base.NoLimit
structure Cx where
 prog:Program
 w:World
 K:Frag
 mg:Str->Option Value
 base:Heap
 A:Around
 N:List Str
 s₀:Shared
 H₀:Hp
 env:Env
 outer:List Env
 stack:List Env
 ex:List Addr
 fn:Str->Bool
 calm:Bool
 pn:List (Addr×Obj)
 xe:Value->Shared->Prop
def N4(l:List Env):List Addr:=l.filterMap (·.frame)
abbrev Cx.fs(X:Cx):List Addr:=N4 X.outer
def eI(sc:Scope)(x:Str):Prop:=sc.names.lookup x=some .local∨sc.names.lookup x=some .cell∨sc.names.lookup x=some .free
def aG(sc:Scope)(x:Str):Prop:=sc.names.lookup x=some .local∨sc.names.lookup x=some .cell
def AQ(env:Env)(h:Heap)(m:Str->Option Value)(x:Str)(u:Value):Prop:=
 (env.kindOf x=some .local/\m x=some u)∨((env.kindOf x=some .cell∨env.kindOf x=some .free)/\∃c,env.cells.lookup x=some c/\h.IsCell c (some u))
structure Cx.Ok(X:Cx):Prop where
 mod:Mod X.K X.mg X.base
 kind:X.env.scope.kind=.function
 glob:X.env.globals=mainGlobals
 blt:X.env.builtins=builtinsNs
 above:X.s₀.heap.objs.size<=X.env.locals
 inj:∀x y c,X.env.cells.lookup x=some c->X.env.cells.lookup y=some c->x=y
 has:∀x,(X.env.kindOf x=some .cell∨X.env.kindOf x=some .free)->∃c,X.env.cells.lookup x=some c
 cab:∀x c,X.fn x=true->X.env.cells.lookup x=some c->X.s₀.heap.objs.size<=c
 hd:X.calm=true->X.A.handled=none
 frames:X.A.frames=some X.stack
 stk:X.stack=X.outer∨(X.stack=X.env::X.outer/\X.env.frame=some X.env.locals)
 exf:∀b∈X.ex,b≠X.env.locals/\∀x c,X.env.cells.lookup x=some c->c≠b
 bs:∀b o,X.base.get? b=some o->X.s₀.heap.get? b=some o/\X.H₀ b=none
 bsz:X.base.objs.size<=X.s₀.heap.objs.size
 noex:∀b o,X.base.get? b=some o->b∉X.ex
 exfs:∀b∈X.ex,b∉X.fs
 funs:X.s₀.heap.FunFrames X.base X.outer
 frf:∀b∈X.fs,X.H₀ b=none
structure Inv(X:Cx)(ζ:List (Addr×Obj))(σ:List (Option V))(H:Hp)(s:Shared):Prop where
 ok:X.Ok
 os:s.os=X.s₀.os
 bare:AllBare s.gens
 base:Un X.fs X.ex X.H₀ H X.s₀.heap s.heap
 loc:∃m,s.heap.Ns X.env.locals m/\∀(i:Nat)(x:Str)(v:V),X.N[i]?=some x->σ[i]?=some (some v)->eI X.env.scope x->∃u,RelV v u/\AQ X.env s.heap m x u
 cell:∀x c,X.env.cells.lookup x=some c->∃v,s.heap.IsCell c v
 free:H X.env.locals=none
 freeC:∀x c,X.env.cells.lookup x=some c->H c=none
 pin:∀p∈X.pn++ζ,s.heap.get? p.1=some p.2/\H p.1=none/\p.1≠X.env.locals/\p.1∉X.fs/\∀v,p.2.data≠.cell v
 hok:HOk X.prog X.w H s.heap
 len:σ.length=X.N.length
section
variable{X:Cx}{ζ:List (Addr×Obj)}{σ:List (Option V)}{H H':Hp}{s:Shared}{h':Heap}
theorem Cx.Ok.nofr(ok:X.Ok){b:Addr}{o:Obj}(e:X.base.get? b=some o):b∉X.fs:=λhb=>by
 have:=(ok.funs.mem hb).1;rw[e]at this;cases this
theorem Inv.bs(I:Inv X ζ σ H s):∀b o,X.base.get? b=some o->s.heap.get? b=some o/\H b=none:=λb o e=>
 ⟨I.base.keep b o (I.ok.bs b o e).1 (I.ok.bs b o e).2 (I.ok.nofr e) (I.ok.noex b o e),I.base.free b o (I.ok.bs b o e).1 (I.ok.bs b o e).2 (I.ok.noex b o e)⟩
theorem Inv.bk(I:Inv X ζ σ H s):∀b o,X.base.get? b=some o->s.heap.get? b=some o:=λb o e=>(I.bs b o e).1
theorem Inv.mod(I:Inv X ζ σ H s):Mod X.K X.mg X.base:=I.ok.mod
theorem Inv.kIn(I:Inv X ζ σ H s):X.K.In s.heap:=I.ok.mod.kin.keeps I.bk
theorem Inv.lt(I:Inv X ζ σ H s):X.env.locals<s.heap.objs.size:=let⟨_,hn,_⟩:=I.loc;hn.lt
theorem Inv.sz(I:Inv X ζ σ H s):X.s₀.heap.objs.size<=s.heap.objs.size:=le_trans I.ok.above (le_of_lt I.lt)
theorem Inv.nofs(I:Inv X ζ σ H s){a:Addr}(h:s.heap.objs.size<=a):a∉X.fs:=λhb=>by
 obtain⟨_,o,ho,_⟩:=I.ok.funs.mem hb;exact absurd (lt_of_lt_of_le (Heap.lt_size ho) (le_trans I.sz h)) (lt_irrefl _)
theorem Inv.cne(I:Inv X ζ σ H s):∀x c,X.env.cells.lookup x=some c->c≠X.env.locals:=λx c e z=>by
 obtain⟨v,o,ho,hd⟩:=I.cell x c e;obtain⟨m,⟨o',es,ep,ho',hd',_⟩,_⟩:=I.loc;rw[z,ho']at ho;cases ho;rw[hd']at hd;cases hd
theorem Inv.funs(I:Inv X ζ σ H s):s.heap.FunFrames X.base X.outer:=by
 have all:∀(l:List Env),(∀b∈N4 l,b∈X.fs)->X.s₀.heap.FunFrames X.base l->s.heap.FunFrames X.base l:=by
  intro l
  induction l with
  |nil=>intro _ _;trivial
  |cons env r ih=>
   intro hs hl;obtain⟨hk,⟨L,o,hf,hn,ho,hd⟩,hr⟩:=hl;have hL:L∈X.fs:=hs L (by unfold N4;rw[filterMap_cons,hf];exact mem_cons_self);obtain⟨sl,e⟩:=I.base.slot L o ho (I.ok.frf L hL) hL λz=>I.ok.exfs L z hL
   exact⟨hk,⟨L,_,hf,hn,e,hd⟩,ih (λb hb=>hs b (by unfold N4;rw[filterMap_cons,hf];exact mem_cons_of_mem _ hb)) hr⟩
 exact all X.outer (λ_ hb=>hb) I.ok.funs
theorem Inv.stack(I:Inv X ζ σ H s):s.heap.FunFrames X.base X.stack:=by
 rcases I.ok.stk with e|⟨e,hf⟩
 ·rw[e];exact I.funs
 ·rw[e]
  obtain⟨m,hn,_⟩:=I.loc;refine .cons (by rw[I.ok.kind];decide) hf hn ?_ I.funs;exact Heap.get?_none_of_le (le_trans I.ok.bsz I.ok.above)
theorem Inv.stkSub(I:Inv X ζ σ H s):∀b∈N4 X.stack,b∈X.env.locals::X.fs:=λb hb=>by
 rcases I.ok.stk with e|⟨e,hf⟩
 ·rw[e]at hb;exact mem_cons_of_mem _ hb
 ·rw[e]at hb
  unfold N4 at hb;rw[filterMap_cons,hf]at hb;exact hb
theorem Inv.stkFree(I:Inv X ζ σ H s):∀b∈N4 X.stack,H b=none:=λb hb=>by
 rcases mem_cons.mp (I.stkSub b hb)with e|hb
 ·rw[e];exact I.free
 ·obtain⟨_,o,ho,_⟩:=I.ok.funs.mem hb
  exact I.base.free b o ho (I.ok.frf b hb) λz=>I.ok.exfs b z hb
theorem Inv.step{g':Array GenState}{t':Nat}{d':Drawn}{ch:List Addr}(I:Inv X ζ σ H s)
  (hch:∀b∈ch,(b∈X.ex∨X.s₀.heap.objs.size<=b)/\b≠X.env.locals/\(∀x c,X.env.cells.lookup x=some c->c≠b)/\∀p∈X.pn++ζ,p.1≠b)
  (keep:∀b o,b≠X.env.locals->b∉X.fs->b∉ch->s.heap.get? b=some o->H b=none->h'.get? b=some o)
  (slot:∀b o,b≠X.env.locals->b∈X.fs->b∉ch->s.heap.get? b=some o->H b=none->∃sl,h'.get? b=some {o with slots:=sl}) (free:∀b o,b∉ch->s.heap.get? b=some o->H b=none->H' b=none)
  (there:∀b o,b∉ch->s.heap.get? b=some o->∃o',h'.get? b=some o')
  (tups:∀b xs,H b=some (.tup xs)->H' b=some (.tup xs)) (frzs:∀b o u,H b=some (.frz o u)->H' b=some (.frz o u)) (tbls:∀b ps,H b=some (.tbl ps)->∃more,H' b=some (.tbl (ps++more)))
  (ns:∀m,s.heap.Ns X.env.locals m->h'.Ns X.env.locals m) (hok:HOk X.prog X.w H' h') (hg:AllBare g'):
  Inv X ζ σ H' {s with heap:=h',gens:=g',drawn:=d',toks:=t'}:=by
 have neL:∀b o,X.s₀.heap.get? b=some o->b≠X.env.locals:=λb o e=>ne_of_lt (lt_of_lt_of_le (Heap.lt_size e) I.ok.above)
 have neC:∀b o,X.s₀.heap.get? b=some o->b∉X.ex->b∉ch:=λb o e hx hb=>by
  rcases(hch b hb).1 with z|z
  ·exact hx z
  ·exact absurd (lt_of_lt_of_le (Heap.lt_size e) z) (lt_irrefl _)
 have cellK:∀x c,X.env.cells.lookup x=some c->∀v,s.heap.IsCell c v->h'.IsCell c v:=λx c e v ⟨o,ho,hd⟩=>by
  have nch:c∉ch:=λz=>(hch c z).2.2.1 x c e rfl
  by_cases hc:c∈X.fs
  ·obtain⟨sl,q⟩:=slot c o (I.cne x c e) hc nch ho (I.freeC x c e)
   exact⟨_,q,hd⟩
  ·exact⟨o,keep c o (I.cne x c e) hc nch ho (I.freeC x c e),hd⟩
 refine⟨I.ok,I.os,hg,⟨λb o e n hb hx=>?_,λb o e n hb hx=>?_,λb o e n hx=>?_,λb o e hx=>?_,λb xs e=>tups b xs (I.base.tups b xs e),λb o xs e=>frzs b o xs (I.base.frzs b o xs e),λb ps e=>?_⟩,?_,λx c e=>?_,?_,λx c e=>?_,λp hp=>?_,hok,I.len⟩
 ·exact keep b o (neL b o e) hb (neC b o e hx) (I.base.keep b o e n hb hx) (I.base.free b o e n hx)
 ·obtain⟨sl,e1⟩:=I.base.slot b o e n hb hx
  obtain⟨sl',e2⟩:=slot b _ (neL b o e) hb (neC b o e hx) e1 (I.base.free b o e n hx);exact⟨sl',e2⟩
 ·obtain⟨o',e1⟩:=I.base.there b o e hx
  exact free b o' (neC b o e hx) e1 (I.base.free b o e n hx)
 ·obtain⟨o',e1⟩:=I.base.there b o e hx
  exact there b o' (neC b o e hx) e1
 ·obtain⟨m1,e1⟩:=I.base.tbls b ps e
  obtain⟨m2,e2⟩:=tbls b _ e1;exact⟨m1++m2,by rw[e2,Array.append_assoc]⟩
 ·obtain⟨m,hn,hl⟩:=I.loc
  refine⟨m,ns m hn,λi x v e1 e2 e3=>?_⟩;obtain⟨u,r,l⟩:=hl i x v e1 e2 e3;refine⟨u,r,?_⟩;rcases l with l|⟨k,c,e,z⟩
  ·exact .inl l
  ·exact .inr ⟨k,c,e,cellK x c e _ z⟩
 ·obtain⟨v,z⟩:=I.cell x c e
  exact⟨v,cellK x c e v z⟩
 ·obtain⟨m,⟨o,_,_,ho,_⟩,_⟩:=I.loc
  exact free _ o (λz=>(hch _ z).2.1 rfl) ho I.free
 ·obtain⟨v,o,ho,hd⟩:=I.cell x c e
  exact free c o (λz=>(hch c z).2.2.1 x c e rfl) ho (I.freeC x c e)
 ·obtain⟨e,n,ne,nf,d⟩:=I.pin p hp
  have nch:p.1∉ch:=λz=>(hch p.1 z).2.2.2 p hp rfl
  exact⟨keep p.1 p.2 ne nf nch e n,free p.1 p.2 nch e n,ne,nf,d⟩
theorem Inv.un{t':Nat}(I:Inv X ζ σ H s)(u:Un X.fs [] H H' s.heap h')(hok:HOk X.prog X.w H' h'):Inv X ζ σ H' {s with heap:=h',toks:=t'}:=by
 obtain⟨m,⟨o,es,ep,ho,r⟩,_⟩:=id I.loc;obtain⟨sl,hL⟩:=u.any ho I.free (!2);exact I.step (g':=s.gens) (d':=s.drawn) (ch:=[]) (λ_ z=>nomatch z) (λb o _ hb _ e n=>u.keep b o e n hb (!2)) (λb o _ hb _ e n=>u.slot b o e n hb (!2)) (λb o _ e n=>u.free b o e n (!2)) (λb o _ e=>u.there b o e (!2)) u.tups u.frzs u.tbls (λm' hm=>by
  obtain⟨o',es',ep',ho',r'⟩:=hm;rw[ho]at ho';cases ho';exact⟨_,es',ep',hL,r'⟩) hok I.bare
theorem Inv.call{g':Array GenState}{t':Nat}{d':Drawn}{ch:List Addr}(I:Inv X ζ σ H s)(u:Un (N4 X.stack) ch H H' s.heap h')(hok:HOk X.prog X.w H' h')(hg:AllBare g')
  (hch:∀b∈ch,(b∈X.ex∨X.s₀.heap.objs.size<=b)/\b≠X.env.locals/\(∀x c,X.env.cells.lookup x=some c->c≠b)/\∀p∈X.pn++ζ,p.1≠b):
  Inv X ζ σ H' {s with heap:=h',gens:=g',drawn:=d',toks:=t'}:=by
 obtain⟨m,⟨o,es,ep,ho,r⟩,_⟩:=id I.loc;obtain⟨sl,hL⟩:=u.any ho I.free λz=>(hch _ z).2.1 rfl
 exact I.step (ch:=ch) hch (λb o hL hb hc e n=>u.keep b o e n (λz=>(mem_cons.mp (I.stkSub b z)).elim hL hb) hc) (λb o _ _ hc e n=>u.any e n hc) (λb o hc e n=>u.free b o e n hc) (λb o hc e=>u.there b o e hc) u.tups u.frzs u.tbls (λm' hm=>by
  obtain⟨o',es',ep',ho',r'⟩:=hm;rw[ho]at ho';cases ho';exact⟨_,es',ep',hL,r'⟩) hok hg
theorem Inv.turned{t':Nat}{it:Addr}(I:Inv X ζ σ H s)(k:∀b o,b≠it->s.heap.get? b=some o->h'.get? b=some o)(hn:H it=none)(hL:it≠X.env.locals)
  (h1:it∈X.ex∨X.s₀.heap.objs.size<=it) (h2:∀x c,X.env.cells.lookup x=some c->c≠it) (h3:∀p∈X.pn++ζ,p.1≠it):Inv X ζ σ H {s with heap:=h',toks:=t'}:=by
 have nit:∀b u,H b=some u->b≠it:=λb u e z=>by rw[z,hn]at e;cases e
 refine I.step (g':=s.gens) (d':=s.drawn) (ch:=[it]) (λb hb=>?_) (λb o _ _ hc e _=>k b o (λz=>hc (by simp[z])) e) (λb o _ _ hc e _=>⟨o.slots,k b o (λz=>hc (by simp[z])) e⟩) (λ_ _ _ _ n=>n)
  (λb o hc e=>⟨o,k b o (λz=>hc (by simp[z])) e⟩) (λ_ _ e=>e) (λ_ _ _ e=>e) (λb ps e=>⟨#[],by rw[e];simp⟩) (λm hm=>?_) (λb u e=>?_) I.bare
 ·have e:b=it:=by simpa using hb
  subst e;exact⟨h1,hL,h2,h3⟩
 ·obtain⟨o,es,ep,ho,r⟩:=hm
  exact⟨o,es,ep,k _ o (Ne.symm hL) ho,r⟩
 ·refine(I.hok b u e).stay (λc v hc q=>k c v ?_ q) (λ_ q=>q) λ_ _ q=>q
  rcases hc with z|z
  ·rw[z];exact nit b u e
  ·exact nit c _ z
theorem Inv.tok(I:Inv X ζ σ H s)(t:Nat):Inv X ζ σ H {s with toks:=t}:=I.un (h':=s.heap) (t':=t) Un.refl I.hok
theorem Inv.kept{t':Nat}(I:Inv X ζ σ H s)(k:∀b u,s.heap.get? b=some u->h'.get? b=some u):Inv X ζ σ H {s with heap:=h',toks:=t'}:=I.un (Un.kept k) (I.hok.kept k)
theorem Inv.laid{a:Addr}{o:HO}{t':Nat}(I:Inv X ζ σ H s)(k:∀b u,s.heap.get? b=some u->h'.get? b=some u)(hp:s.heap.objs.size<=a)(new:ObjOk X.prog X.w (upd H a o) h' a o):
  Inv X ζ σ (upd H a o) {s with heap:=h',toks:=t'}:=I.un (Un.laid k hp (I.hok.fresh hp)) (I.hok.laid k hp new)
theorem Inv.write{x e:Addr}{o:HO}{t':Nat}(I:Inv X ζ σ H s)(mu:cA (H x))(he:e=x∨H e=some (.own x))(k:∀b u,b≠e->s.heap.get? b=some u->h'.get? b=some u)(heo:∃u,h'.get? e=some u)
  (new:ObjOk X.prog X.w (upd H x o) h' x o):Inv X ζ σ (upd H x o) {s with heap:=h',toks:=t'}:=I.un (Un.write mu he k heo) (I.hok.write mu he k heo new)
theorem Inv.weak{σ':List (Option V)}(I:Inv X ζ σ H s)(hl:σ'.length=σ.length)(w:∀(i:Nat) v,σ'[i]?=some (some v)->σ[i]?=some (some v)):Inv X ζ σ' H s:=
 ⟨I.ok,I.os,I.bare,I.base,let⟨m,hn,hl'⟩:=I.loc;⟨m,hn,λi x v e1 e2 e3=>hl' i x v e1 (w i v e2) e3⟩,I.cell,I.free,I.freeC,I.pin,I.hok,hl.trans I.len⟩
theorem Inv.pins_of{ζ':List (Addr×Obj)}(I:Inv X ζ σ H s)(h:∀p∈ζ',s.heap.get? p.1=some p.2/\H p.1=none/\p.1≠X.env.locals/\p.1∉X.fs/\∀v,p.2.data≠.cell v):Inv X ζ' σ H s:=
 ⟨I.ok,I.os,I.bare,I.base,I.loc,I.cell,I.free,I.freeC,λp hp=>(mem_append.mp hp).elim (λz=>I.pin p (mem_append_left _ z)) (h p),I.hok,I.len⟩
theorem pD{N:List Str}(hN:N.Nodup){i j:Nat}{x:Str}(a:N[i]?=some x)(b:N[j]?=some x):i=j:=by
 obtain⟨h1,e1⟩:=List.getElem?_eq_some_iff.mp a;obtain⟨h2,e2⟩:=List.getElem?_eq_some_iff.mp b;exact(List.getElem_inj hN).mp (e1.trans e2.symm)
theorem AR{M:Model}{A:Around}{E:Value->Shared->Prop}{i:Nat}{x:Str}{v:V}{u:Value}{Q:Unit->Shared->Prop}(I:Inv X ζ σ H s)(hN:X.N.Nodup)(hi:X.N[i]?=some x)(hx:aG X.env.scope x)(r:RelV v u)
  (h:∀s',Inv X ζ (σ.set i (some v)) H s'->(∃a,Heap.SameBut a s.heap s'.heap/\(a=X.env.locals∨X.env.cells.lookup x=some a))->Q () s') (hf:X.fn x=true∨X.env.scope.names.lookup x=some .local:=by first|exact .inl rfl|exact .inr rfl|assumption):wpAny M A (storeName X.env x u) Q E s:=by
 obtain⟨m,hn,hl⟩:=id I.loc;have hcls:(X.env.scope.kind==.class||(X.env.scope.kind==.module&&X.env.locals != X.env.globals))=false:=by rw[I.ok.kind];rfl
 have hiσ:i<σ.length:=by rw[I.len];exact(List.getElem?_eq_some_iff.mp hi).1
 have cne:=I.cne;have tracked:∀{a:Addr}{h':Heap},(∃o,s.heap.get? a=some o/\H a=none)->Heap.SameBut a s.heap h'->HOk X.prog X.w H h':=λ{a h'} ha hs b ob e=>by
  obtain⟨_,_,hfree⟩:=ha;refine(I.hok b ob e).stay (λc w' hc q=>(hs.2 c ?_).trans q) (λ_ q=>q) λ_ _ q=>q
  rintro rfl;rcases hc with rfl|hc
  ·rw[hfree]at e;cases e
  ·rw[hfree]at hc;cases hc
 rcases hx with hk|hk
 ·refine wpAny_storeName_local hk hn (λh' hn' hs=>?_) hcls
  obtain⟨oL,_,_,hoL,_⟩:=id hn;refine h _ ⟨I.ok,I.os,I.bare,⟨λb o e n hb hx=>?_,λb o e n hb hx=>?_,I.base.free,λb o e hx=>?_,I.base.tups,I.base.frzs,I.base.tbls⟩,⟨_,hn',λj y v' e1 e2 e3=>?_⟩,λy c e=>?_,I.free,I.freeC,λp hp=>?_,tracked ⟨oL,hoL,I.free⟩ hs,by simpa using I.len⟩ ⟨_,hs,.inl rfl⟩
  ·exact(hs.2 b (ne_of_lt (lt_of_lt_of_le (Heap.lt_size e) I.ok.above))).trans (I.base.keep b o e n hb hx)
  ·obtain⟨sl,e1⟩:=I.base.slot b o e n hb hx
   exact⟨sl,(hs.2 b (ne_of_lt (lt_of_lt_of_le (Heap.lt_size e) I.ok.above))).trans e1⟩
  ·obtain⟨o',e1⟩:=I.base.there b o e hx
   exact⟨o',(hs.2 b (ne_of_lt (lt_of_lt_of_le (Heap.lt_size e) I.ok.above))).trans e1⟩
  ·by_cases hj:j=i
   ·subst hj
    rw[hi]at e1;cases e1;rw[getElem?_set_self hiσ]at e2;cases e2;exact⟨u,r,.inl ⟨hk,!2⟩⟩
   ·rw[getElem?_set_ne (Ne.symm hj)]at e2
    obtain⟨u',r',q⟩:=hl j y v' e1 e2 e3;refine⟨u',r',?_⟩;rcases q with⟨k,e⟩|⟨k,c,e,z⟩
    ·refine .inl ⟨k,?_⟩
     have:y≠x:=λe=>hj (pD hN e1 (e ▸ hi))
     simp[this,e]
    ·exact .inr ⟨k,c,e,z.sameBut hs (cne y c e)⟩
  ·obtain⟨w',z⟩:=I.cell y c e
   exact⟨w',z.sameBut hs (cne y c e)⟩
  ·obtain⟨e,n,ne,nf,d⟩:=I.pin p hp
   exact⟨(hs.2 p.1 ne).trans e,n,ne,nf,d⟩
 ·have hfn:X.fn x=true:=by
   rcases hf with z|z
   ·exact z
   ·rw[z]at hk;cases hk
  obtain⟨c,hc⟩:=I.ok.has x (.inl hk);obtain⟨w',z⟩:=I.cell x c hc;refine wpAny_storeName_cell I.ok.kind hk hc z (λh' hc' hs=>?_);obtain⟨oc,hoc,hocd⟩:=id z;refine h {s with heap:=h'} ⟨I.ok,I.os,I.bare,⟨λb o e n hb hx=>?_,λb o e n hb hx=>?_,I.base.free,λb o e hx=>?_,I.base.tups,I.base.frzs,I.base.tbls⟩,⟨m,hn.sameBut hs (Ne.symm (cne x c hc)),λj y v' e1 e2 e3=>?_⟩,λy c' e=>?_,I.free,I.freeC,λp hp=>?_,tracked ⟨oc,hoc,I.freeC x c hc⟩ hs,by simpa using I.len⟩ ⟨c,hs,.inr hc⟩
  ·exact(hs.2 b (ne_of_lt (lt_of_lt_of_le (Heap.lt_size e) (I.ok.cab x c hfn hc)))).trans (I.base.keep b o e n hb hx)
  ·obtain⟨sl,e1⟩:=I.base.slot b o e n hb hx
   exact⟨sl,(hs.2 b (ne_of_lt (lt_of_lt_of_le (Heap.lt_size e) (I.ok.cab x c hfn hc)))).trans e1⟩
  ·obtain⟨o',e1⟩:=I.base.there b o e hx
   exact⟨o',(hs.2 b (ne_of_lt (lt_of_lt_of_le (Heap.lt_size e) (I.ok.cab x c hfn hc)))).trans e1⟩
  ·by_cases hj:j=i
   ·subst hj
    rw[hi]at e1;cases e1;rw[getElem?_set_self hiσ]at e2;cases e2;exact⟨u,r,.inr ⟨.inl hk,c,hc,hc'⟩⟩
   ·rw[getElem?_set_ne (Ne.symm hj)]at e2
    obtain⟨u',r',q⟩:=hl j y v' e1 e2 e3;refine⟨u',r',?_⟩;rcases q with q|⟨k,c',e,z'⟩
    ·exact .inl q
    ·refine .inr ⟨k,c',e,z'.sameBut hs ?_⟩
     rintro rfl;exact hj (pD hN e1 (I.ok.inj _ _ _ e hc ▸ hi))
  ·by_cases hcc:c'=c
   ·subst hcc;exact⟨_,hc'⟩
   ·obtain⟨w2,z2⟩:=I.cell y c' e
    exact⟨w2,z2.sameBut hs hcc⟩
  ·obtain⟨e,n,ne,nf,d⟩:=I.pin p hp
   refine⟨(hs.2 p.1 ?_).trans e,n,ne,nf,d⟩;intro q;rw[q,hoc]at e;have q':oc=p.2:=Option.some.inj e;exact d w' (by rw[←q'];exact hocd)
theorem pE{M:Model}{A:Around}{E:Value->Shared->Prop}{i:Nat}{x:Str}{v:V}{u:Value}{Q:Unit->Shared->Prop}(I:Inv X ζ σ H s)(hN:X.N.Nodup)(hi:X.N[i]?=some x)(hx:aG X.env.scope x)(r:RelV v u)
  (h:∀s',Inv X ζ (σ.set i (some v)) H s'->Q () s') (hf:X.fn x=true∨X.env.scope.names.lookup x=some .local:=by first|exact .inl rfl|exact .inr rfl|assumption):wpAny M A (storeName X.env x u) Q E s:=
 AR I hN hi hx r (λs' I' _=>h s' I') hf
theorem Inv.call'{s':Shared}{ch:List Addr}(I:Inv X ζ σ H s)(ho:s'.os=s.os)(u:Un (N4 X.stack) ch H H' s.heap s'.heap)(hok:HOk X.prog X.w H' s'.heap)(hg:AllBare s'.gens)
  (hch:∀b∈ch,(b∈X.ex∨X.s₀.heap.objs.size<=b)/\b≠X.env.locals/\(∀x c,X.env.cells.lookup x=some c->c≠b)/\∀p∈X.pn++ζ,p.1≠b):Inv X ζ σ H' s':=by
 obtain⟨h',g',d',t',o'⟩:=s';have e:o'=s.os:=ho;subst e;exact I.call (g':=g') (t':=t') (d':=d') u hok hg hch
end
abbrev XK:=Value->Option Addr->Hp->Prop
abbrev St:=List (Option V)
abbrev VK:=V->Hp->Prop
abbrev TE:=St->Hp->VK->Prop
abbrev TT:=St->Hp->(Bool->Hp->Prop)->Prop
abbrev TA:=St->Hp->(List V->Hp->Prop)->Prop
structure Ends where
 nx:St->Hp->Prop
 rt:VK
 bk:St->Hp->Prop:=λ_ _=>False
 ct:St->Hp->Prop:=λ_ _=>False
abbrev TS:=Ends->St->Hp->Prop
def EP(X:Cx)(ζ:List (Addr×Obj))(σ:St)(Q:VK)(u:Value)(s':Shared):Prop:=∃v H',Inv X ζ σ H' s'/\RelV v u/\Q v H'
def TP(X:Cx)(ζ:List (Addr×Obj))(σ:St)(Q:Bool->Hp->Prop)(b:Bool)(s':Shared):Prop:=∃H',Inv X ζ σ H' s'/\Q b H'
def AP(X:Cx)(ζ:List (Addr×Obj))(σ:St)(Q:List V->Hp->Prop)(us:List Value)(s':Shared):Prop:=∃vs H',Inv X ζ σ H' s'/\Vals vs us/\Q vs H'
def SP(X:Cx)(ζ:List (Addr×Obj))(D:Ends)(f:Flow)(s':Shared):Prop:=
 match f with
 |.next=>∃σ' H',Inv X ζ σ' H' s'/\D.nx σ' H'
 |.brk=>∃σ' H',Inv X ζ σ' H' s'/\D.bk σ' H'
 |.cont=>∃σ' H',Inv X ζ σ' H' s'/\D.ct σ' H'
 |.ret u=>∃v σ' H',Inv X ζ σ' H' s'/\RelV v u/\D.rt v H'
def PE(X:Cx)(e:Expr)(t:TE):Prop:=
 ∀(ζ:List (Addr×Obj))(s:Shared)(σ:St)(H:Hp)(Q:VK),Inv X ζ σ H s->t σ H Q->wpAny (model X.prog X.w) X.A (eval e X.env) (EP X ζ σ Q) X.xe s
def PT(X:Cx)(e:Expr)(t:TT):Prop:=
 ∀(ζ:List (Addr×Obj))(s:Shared)(σ:St)(H:Hp)(Q:Bool->Hp->Prop),Inv X ζ σ H s->t σ H Q->wpAny (model X.prog X.w) X.A (isTrue e X.env (eval e X.env)) (TP X ζ σ Q) X.xe s
def PW(X:Cx)(e:Expr)(t:TT):Prop:=
 ∀(whole:Sem Value)(ζ:List (Addr×Obj))(s:Shared)(σ:St)(H:Hp)(Q:Bool->Hp->Prop),Inv X ζ σ H s->t σ H Q->wpAny (model X.prog X.w) X.A (isTrue e X.env whole) (TP X ζ σ Q) X.xe s
theorem PW.pt{X:Cx}{e:Expr}{t:TT}(h:PW X e t):PT X e t:=h _
def PA(X:Cx)(es:List Expr)(t:TA):Prop:=
 ∀(pos:Pos)(ζ:List (Addr×Obj))(s:Shared)(σ:St)(H:Hp)(Q:List V->Hp->Prop),Inv X ζ σ H s->t σ H Q->wpAny (model X.prog X.w) X.A (spliced (backTo pos (starEach es X.env))) (AP X ζ σ Q) X.xe s
def PS(X:Cx)(st:Stmt)(t:TS):Prop:=
 ∀(ζ:List (Addr×Obj))(s:Shared)(σ:St)(H:Hp)(D:Ends),Inv X ζ σ H s->t D σ H->wpAny (model X.prog X.w) X.A (exec st X.env) (SP X ζ D) X.xe s
def PSs(X:Cx)(st:List Stmt)(t:TS):Prop:=
 ∀(ζ:List (Addr×Obj))(s:Shared)(σ:St)(H:Hp)(D:Ends),Inv X ζ σ H s->t D σ H->wpAny (model X.prog X.w) X.A (execs st X.env) (SP X ζ D) X.xe s
theorem A7{α:Type}{t:Sem α}{Q Q':α->Shared->Prop}{M:Model}{A:Around}{E:Value->Shared->Prop}{s:Shared}(h:wpAny M A t Q E s)(hQ:∀a s,Q a s->Q' a s):wpAny M A t Q' E s:=wpAny_mono h hQ λ_ _ x=>x
end L2
namespace L2
open PySem PySem.Spec PyProof.Rows
section
variable{X:Cx}
def eJ(i:Nat):TE:=fun σ H Q=>∃v,σ[i]?=some (some v)/\Q v H
def tC(v:V):TE:=λ_ H Q=>Q v H
theorem pF{i:Nat}{x:Str}{pos:Pos}(hN:X.N[i]?=some x)(hv:eI X.env.scope x)(hd:(x==("__debug__" : Str))=false:=by decide)(hcd:(x==("__classdict__" : Str))=false:=by decide):PE X (.Name x pos) (eJ i):=by
 intro ζ s σ H Q I h;obtain⟨v,e,h⟩:=h;obtain⟨m,hn,hl⟩:=I.loc;obtain⟨u,r,l⟩:=hl i x v hN e hv;have fin:EP X ζ σ Q u s:=⟨v,H,I,r,h⟩;rcases l with⟨hk,hm⟩|⟨hk,c,hc,hcell⟩
 ·exact wpAny_Name (wpAny_loadName_local I.ok.kind hk hn hm fin) hd
 ·rcases hk with hk|hk
  ·exact wpAny_Name (wpAny_loadName_cell I.ok.kind hk hc hcell fin) hd
  ·exact wpAny_Name (wpAny_loadName_free I.ok.kind hk hc hcell fin hcd) hd
theorem AS{i j pos}:PE X (.Constant (.int i) j pos) (tC (.int i)):=λ_ _ _ H _ I h=>wpAny_Constant_int ⟨.int i,H,I.tok _,⟨_,rfl⟩,h⟩
theorem AT{b j pos}:PE X (.Constant (.bool b) j pos) (tC (.bl b)):=λ_ _ _ H _ I h=>Constant_bool ⟨.bl b,H,I,rfl,h⟩
theorem pG{x j pos}:PE X (.Constant (.str x) j pos) (tC (.str x)):=λ_ _ _ H _ I h=>Calls.Constant_str ⟨.str x,H,I.tok _,⟨_,rfl⟩,h⟩
def Gl(X:Cx)(x:Str):Prop:=X.env.kindOf x=some .globalImplicit
theorem eK{E:Value->Shared->Prop}{ζ:List (Addr×Obj)}{s:Shared}{σ:St}{H:Hp}{x:Str}{u:Value}{pos:Pos}{Q:Value->Shared->Prop}(I:Inv X ζ σ H s)(hg:Gl X x)(hm:X.mg x=some u)(h:Q u s)
  (hd:(x==("__debug__" : Str))=false:=by decide):wpAny (model X.prog X.w) X.A (eval (.Name x pos) X.env) Q E s:=
 Calls.Name_function_global I.ok.kind hg (Calls.loadGlobal_global (by rw[I.ok.glob];exact I.mod.glob.keeps I.bk) hm h) hd
theorem W1{E:Value->Shared->Prop}{ζ:List (Addr×Obj)}{s:Shared}{σ:St}{H:Hp}{x:Str}{u:Value}{pos:Pos}{Q:Value->Shared->Prop}(I:Inv X ζ σ H s)(hg:Gl X x)(hm:X.mg x=none)(hv:bootBuiltins x=some u)(h:Q u s)
  (hn:x≠"__name__":=by decide) (hd:(x==("__debug__" : Str))=false:=by decide):wpAny (model X.prog X.w) X.A (eval (.Name x pos) X.env) Q E s:=by
 obtain⟨mb,h1,h2⟩:=I.mod.blt;exact Calls.Name_function_global I.ok.kind hg (Calls.loadGlobal_builtin (by rw[I.ok.glob];exact I.mod.glob.keeps I.bk) hm (by rw[I.ok.blt];exact h1.keeps I.bk) ((h2 x hn).trans hv) h) hd
theorem pH{x:Str}{v:V}{u:Value}{pos:Pos}(hg:Gl X x)(hm:X.mg x=some u)(r:RelV v u)(hd:(x==("__debug__" : Str))=false:=by decide):PE X (.Name x pos) (tC v):=
 λ_ _ _ H _ I h=>eK I hg hm ⟨v,H,I,r,h⟩ hd
theorem eL{x:Str}{v:V}{u:Value}{pos:Pos}(hg:Gl X x)(hm:X.mg x=none)(hv:bootBuiltins x=some u)(r:RelV v u)(hn:x≠"__name__":=by decide)(hd:(x==("__debug__" : Str))=false:=by decide):PE X (.Name x pos) (tC v):=
 λ_ _ _ H _ I h=>W1 I hg hm hv ⟨v,H,I,r,h⟩ hn hd
variable{a b:Expr}{ta tb:TE}{pos:Pos}
def tB(t:TE):TT:=fun σ H Q=>t σ H λx H1=>∃c,x=.bl c/\Q c H1
theorem iO{e:Expr}{t:TE}(h:PE X e t)(he:∀whole,isTrue e X.env whole=(do let v ←whole;standAt e.pos;holding [v] (truthy v)):=by intro _;rfl):PT X e (tB t):=by
 intro ζ s σ H Q I hw;refine isTrue_plain (A7 (h ζ s σ H _ I hw) λv s1 ⟨x,H1,I1,r1,q1⟩=>?_) (he _);obtain⟨d,rfl,q⟩:=q1;cases r1;exact wpAny_truthy_bool ⟨H1,I1,q⟩
variable{tA tB':TT}{C9:List Expr}
def pI(t u:TT):TT:=fun σ H Q=>t σ H λc H1=>if c=true then u σ H1 Q else Q false H1
def pJ(t u:TT):TT:=fun σ H Q=>t σ H λc H1=>if c=true then Q true H1 else u σ H1 Q
def pK(t:TT):TT:=fun σ H Q=>t σ H λc H1=>Q (!c) H1
theorem AU(ha:PT X a tA):PW X (.BoolOp .And [a] pos) tA:=by
 intro wh ζ s σ H Q I h;refine isTrue_and (A7 (ha ζ s σ H Q I h) λc s1 e=>?_);cases c with
 |true=>exact isTrue_and_nil e
 |false=>exact e
theorem AV(ha:PT X a tA):PW X (.BoolOp .Or [a] pos) tA:=by
 intro wh ζ s σ H Q I h;refine isTrue_or (A7 (ha ζ s σ H Q I h) λc s1 e=>?_);cases c with
 |false=>exact isTrue_or_nil e
 |true=>exact e
theorem AW(ha:PT X a tA)(hb:PW X (.BoolOp .And (b::C9) pos) tB'):PW X (.BoolOp .And (a::b::C9) pos) (pI tA tB'):=by
 intro wh ζ s σ H Q I h;refine isTrue_and (A7 (ha ζ s σ H _ I h) λc s1 h9=>?_);obtain⟨H1,I1,q1⟩:=h9;cases c with
 |true=>exact hb wh ζ s1 σ H1 Q I1 q1
 |false=>exact⟨H1,I1,q1⟩
theorem AX(ha:PT X a tA)(hb:PW X (.BoolOp .Or (b::C9) pos) tB'):PW X (.BoolOp .Or (a::b::C9) pos) (pJ tA tB'):=by
 intro wh ζ s σ H Q I h;refine isTrue_or (A7 (ha ζ s σ H _ I h) λc s1 h9=>?_);obtain⟨H1,I1,q1⟩:=h9;cases c with
 |true=>exact⟨H1,I1,q1⟩
 |false=>exact hb wh ζ s1 σ H1 Q I1 q1
theorem AY(ha:PT X a tA):PT X (.UnaryOp .Not a pos) (pK tA):=by
 intro ζ s σ H Q I h;exact isTrue_not (ha ζ s σ H (λc H1=>Q (!c) H1) I h)
def pM(ta tb:TE):TE:=fun σ H Q=>ta σ H λx H1=>∃c,x=.bl c/\if c=true then tb σ H1 Q else Q (.bl false) H1
def pN(ta:TE):TE:=fun σ H Q=>ta σ H λx H1=>∃c,x=.bl c/\Q (.bl (!c)) H1
theorem AZ{op}{t:TE}(h:PE X a t):PE X (.BoolOp op [a] pos) t:=fun ζ s σ H Q I hw=>BoolOp_one (h ζ s σ H Q I hw)
theorem Ba(ha:PE X a ta)(hb:PE X (.BoolOp .And (b::C9) pos) tb):PE X (.BoolOp .And (a::b::C9) pos) (pM ta tb):=by
 intro ζ s σ H Q I h;refine BoolOp_and (A7 (ha ζ s σ H _ I h) λv s1 h9=>?_);obtain⟨x,H1,I1,r1,q1⟩:=h9;obtain⟨c,rfl,q1⟩:=q1;cases r1;refine wpAny_truthy_bool ?_;cases c with
 |true=>exact hb ζ s1 σ H1 Q I1 q1
 |false=>exact⟨.bl false,H1,I1,rfl,q1⟩
theorem Bb(ha:PE X a ta):PE X (.UnaryOp .Not a pos) (pN ta):=by
 intro ζ s σ H Q I h;refine UnaryOp_ (A7 (ha ζ s σ H _ I h) λv s1 h9=>?_);obtain⟨x,H1,I1,r1,q1⟩:=h9;obtain⟨c,rfl,q1⟩:=q1;cases r1;exact not_of (wpAny_truthy_bool ⟨.bl (!c),H1,I1,rfl,q1⟩)
def pO(t:TT)(ta tb:TE):TE:=fun σ H Q=>t σ H λc H1=>if c=true then ta σ H1 Q else tb σ H1 Q
theorem Bc{c:Expr}(hc:PT X c tA)(ha:PE X a ta)(hb:PE X b tb):PE X (.IfExp c a b pos) (pO tA ta tb):=by
 intro ζ s σ H Q I h;refine wpAny_IfExp (A7 (hc ζ s σ H _ I h) λd s1 h9=>?_);obtain⟨H1,I1,q1⟩:=h9;cases d with
 |true=>exact ha ζ s1 σ H1 Q I1 q1
 |false=>exact hb ζ s1 σ H1 Q I1 q1
end
end L2
namespace L2
open PySem PySem.Spec PyProof.Rows
def SqL(K:Frag)(H:Hp)(a:Addr)(xs:List V):Prop:=
 Rd H a (.lst xs)∨
  ∃(o:Obj)(its:Array Value)(n:Nat),K.lookup a=some o/\o.cls=.type "list"/\o.dict=none/\o.data=.seq its n/\its.size<=sizeLine/\Vals xs its.toList
def SqT(K:Frag)(H:Hp)(a:Addr)(xs:List V):Prop:=
 Rd H a (.tup xs)∨
  ∃(o:Obj)(its:Array Value)(n:Nat),K.lookup a=some o/\o.cls=.type "tuple"/\o.data=.seq its n/\its.size<=sizeLine/\Vals xs its.toList
def Bd:Value->Option V
 |.none=>some .non
 |.bool b=>some (.bl b)
 |.int i _=>some (.int i)
 |.str x _=>some (.str x)
 |.bytes b _=>some (.byt b)
 |.float b _=>some (.flt b)
 |.ref a=>some (.ref a)
 |.type n=>some (.ty n)
 |_=>none
theorem RelV.abs{x:V}{u:Value}(r:RelV x u):Bd u=some x:=by
 cases x with
 |non=>cases r;rfl
 |bl _=>cases r;rfl
 |int _=>obtain⟨t,rfl⟩:=r;rfl
 |str _=>obtain⟨t,rfl⟩:=r;rfl
 |byt _=>obtain⟨t,rfl⟩:=r;rfl
 |flt _=>obtain⟨t,rfl⟩:=r;rfl
 |ref _=>cases r;rfl
 |ty _=>cases r;rfl
theorem RelV.inj{x y:V}{u:Value}(r:RelV x u)(q:RelV y u):x=y:=Option.some.inj (r.abs.symm.trans q.abs)
theorem Vals.inj:∀{xs ys:List V}{us:List Value},Vals xs us->Vals ys us->xs=ys
 |_,_,_,.nil,.nil=>rfl
 |_,_,_,.cons r t,.cons r' t'=>by rw[r.inj r',Vals.inj t t']
section
variable{X:Cx}{ζ:List (Addr×Obj)}{σ:St}{H:Hp}{s:Shared}{a:Addr}{xs ys:List V}
theorem SqL.of{K:Frag}(h:H a=some (.lst xs)):SqL K H a xs:=.inl (.inl h)
theorem SqT.of{K:Frag}(h:H a=some (.tup xs)):SqT K H a xs:=.inl (.inl h)
theorem Inv.list(I:Inv X ζ σ H s)(h:SqL X.K H a xs):∃its:List Value,Vals xs its/\PlainL s.heap a its.toArray/\xs.length<=sizeLine:=by
 rcases h with h|⟨o,its,n,hk,hc,hd,hs,hz,r⟩
 ·obtain⟨z,its,n,r,e⟩:=h.ok I.hok
  exact⟨its,r,⟨_,n,e,rfl,rfl,rfl⟩,z⟩
 ·refine⟨its.toList,r,⟨o,n,I.kIn a o hk,hc,hd,by simpa using hs⟩,?_⟩
  have e:=r.length;simp only[Array.length_toList]at e;omega
theorem Inv.tuple(I:Inv X ζ σ H s)(h:SqT X.K H a xs):∃its:List Value,Vals xs its/\IsTup s.heap a its.toArray/\xs.length<=sizeLine:=by
 rcases h with h|⟨o,its,n,hk,hc,hs,hz,r⟩
 ·obtain⟨z,its,r,p⟩:=h.ok I.hok
  exact⟨its,r,p,z⟩
 ·refine⟨its.toList,r,⟨o,I.kIn a o hk,hc,n,by simpa using hs⟩,?_⟩
  have e:=r.length;simp only[Array.length_toList]at e;omega
theorem Inv.list_inj(I:Inv X ζ σ H s)(h:SqL X.K H a xs)(h':SqL X.K H a ys):xs=ys:=by
 obtain⟨its,r,⟨o,n,e,_,_,d⟩,_⟩:=I.list h;obtain⟨its',r',⟨o',n',e',_,_,d'⟩,_⟩:=I.list h';rw[e]at e';cases e';rw[d]at d';injection d' with d1 _
 have:its=its':=by simpa using congrArg Array.toList d1
 subst this;exact r.inj r'
end
abbrev Cx.wish(X:Cx)(E:Value->Shared->Prop):Cx:={X with xe:=E}
abbrev Cx.nox(X:Cx):Cx:=X.wish λ_ _=>False
theorem Cx.Ok.wish{X:Cx}(ok:X.Ok)(E:Value->Shared->Prop):(X.wish E).Ok:=
 ⟨ok.mod,ok.kind,ok.glob,ok.blt,ok.above,ok.inj,ok.has,ok.cab,ok.hd,ok.frames,ok.stk,ok.exf,ok.bs,ok.bsz,ok.noex,ok.exfs,ok.funs,ok.frf⟩
theorem Cx.Ok.unwish{X:Cx}{E:Value->Shared->Prop}(ok:(X.wish E).Ok):X.Ok:=
 ⟨ok.mod,ok.kind,ok.glob,ok.blt,ok.above,ok.inj,ok.has,ok.cab,ok.hd,ok.frames,ok.stk,ok.exf,ok.bs,ok.bsz,ok.noex,ok.exfs,ok.funs,ok.frf⟩
section
variable{X:Cx}{ζ:List (Addr×Obj)}{σ:St}{H:Hp}{s:Shared}{E:Value->Shared->Prop}
theorem Inv.wish(I:Inv X ζ σ H s)(E:Value->Shared->Prop):Inv (X.wish E) ζ σ H s:=⟨I.ok.wish E,I.os,I.bare,I.base,I.loc,I.cell,I.free,I.freeC,I.pin,I.hok,I.len⟩
theorem Inv.unwish(I:Inv (X.wish E) ζ σ H s):Inv X ζ σ H s:=⟨I.ok.unwish,I.os,I.bare,I.base,I.loc,I.cell,I.free,I.freeC,I.pin,I.hok,I.len⟩
theorem SP.unwish{D:Ends}{f:Flow}{s':Shared}(h:SP (X.wish E) ζ D f s'):SP X ζ D f s':=by
 cases f with
 |next=>obtain⟨σ',H',I,q⟩:=h;exact⟨σ',H',I.unwish,q⟩
 |brk=>obtain⟨σ',H',I,q⟩:=h;exact⟨σ',H',I.unwish,q⟩
 |cont=>obtain⟨σ',H',I,q⟩:=h;exact⟨σ',H',I.unwish,q⟩
 |ret u=>obtain⟨v,σ',H',I,r,q⟩:=h;exact⟨v,σ',H',I.unwish,r,q⟩
theorem PSs.nox{st:List Stmt}{t:TS}(h:PSs X.nox st t):PSs X st t:=fun ζ s σ H D I hw=>
 wpAny_mono (h ζ s σ H D (I.wish _) hw) (λ_ _ q=>q.unwish) λ_ _ z=>False.elim z
end
section
variable{X:Cx}{st:Stmt}{C9:List Stmt}{t u:TS}{e:Expr}{te:TE}{pos:Pos}
def pP:TS:=λD σ H=>D.nx σ H
def aH(t u:TS):TS:=λD σ H=>t {D with nx:=u D} σ H
theorem eM:PSs X [] pP:=λ_ _ σ H _ I h=>wpAny_execs_nil ⟨σ,H,I,h⟩
theorem eN(h1:PS X st t)(h2:PSs X C9 u):PSs X (st::C9) (aH t u):=by
 intro ζ s σ H D I h;refine wpAny_execs_cons (A7 (h1 ζ s σ H {D with nx:=u D} I h) λf s1 q=>?_);cases f with
 |next=>
  obtain⟨σ',H',I',q⟩:=q;exact h2 ζ s1 σ' H' D I' q
 |ret v=>exact q
 |brk=>exact q
 |cont=>exact q
theorem Y3(h1:PS X st t):PSs X [st] t:=by
 intro ζ s σ H D I h;refine wpAny_execs_cons (A7 (h1 ζ s σ H D I h) λf s1 q=>?_);cases f with
 |next=>exact wpAny_execs_nil q
 |ret v=>exact q
 |brk=>exact q
 |cont=>exact q
theorem Inv.quiet{ζ:List (Addr×Obj)}{σ:St}{H:Hp}{s:Shared}(I:Inv X ζ σ H s):interactive X.env=false:=by simp[interactive,I.ok.kind]
def pQ(te:TE):TS:=λD σ H=>te σ H λ_ H1=>D.nx σ H1
theorem Be(he:PE X e te)(hs:swapsWith e none pos.line X.env=pure false:=by rfl):PS X (.Expr e pos) (pQ te):=by
 intro ζ s σ H D I h;exact wpAny_Expr_any (A7 (he ζ s σ H _ I h) λv s1 ⟨x,H1,I1,r1,q1⟩=>⟨σ,H1,I1,q1⟩) I.quiet hs
def iP(te:TE):TS:=λD σ H=>te σ H D.rt
theorem Y4(he:PE X e te):PS X (.Return (some e) pos) (iP te):=by
 intro ζ s σ H D I h;exact wpAny_Return_some (A7 (he ζ s σ H _ I h) λv s1 ⟨x,H1,I1,r1,q1⟩=>⟨x,σ,H1,I1,r1,q1⟩)
def pR(c:TT)(t u:TS):TS:=λD σ H=>c σ H λb H1=>if b=true then t D σ H1 else u D σ H1
theorem eO{c:Expr}{a b:List Stmt}{tc:TT}(hc:PT X c tc)(ha:PSs X a t)(hb:PSs X b u):PS X (.If c a b pos) (pR tc t u):=by
 intro ζ s σ H D I h;refine wpAny_If (A7 (hc ζ s σ H _ I h) λd s1 h9=>?_);obtain⟨H1,I1,q1⟩:=h9;cases d with
 |true=>exact ha ζ s1 σ H1 D I1 q1
 |false=>exact hb ζ s1 σ H1 D I1 q1
def pS:TS:=λ_ _ _=>False
theorem pT{sts:List Stmt}:PSs X sts pS:=λ_ _ _ _ _ _ h=>h.elim
end
abbrev TG:=V->St->Hp->(St->Hp->Prop)->Prop
abbrev U6:=List V->St->Hp->(St->Hp->Prop)->Prop
def PG(X:Cx)(target:Expr)(t:TG):Prop:=
 ∀(ζ:List (Addr×Obj))(s:Shared)(σ:St)(H:Hp)(v:V)(u:Value)(Q:St->Hp->Prop),Inv X ζ σ H s->RelV v u->t v σ H Q->
  wpAny (model X.prog X.w) X.A (assign target X.env u) (λ_ s'=>∃σ' H',Inv X ζ σ' H' s'/\Q σ' H') X.xe s
def cB(X:Cx)(ts:List Expr)(t:U6):Prop:=
 ∀(ζ:List (Addr×Obj))(s:Shared)(σ:St)(H:Hp)(vs:List V)(us:List Value)(Q:St->Hp->Prop),Inv X ζ σ H s->Vals vs us->t vs σ H Q->
  wpAny (model X.prog X.w) X.A (assignInOrder ((assignEach ts X.env).map (·.2)) us) (λ_ s'=>∃σ' H',Inv X ζ σ' H' s'/\Q σ' H') X.xe s
abbrev cC:=V->V->V->Hp->(Hp->Prop)->Prop
def PSet(X:Cx)(t:cC):Prop:=
 ∀(ζ:List (Addr×Obj))(s:Shared)(σ:St)(H:Hp)(o i v:V)(ov iv u:Value)(Q:Hp->Prop),Inv X ζ σ H s->RelV o ov->RelV i iv->RelV v u->t o i v H Q->
  wpAny (model X.prog X.w) X.A (setItem ov iv u) (λ_ s'=>∃H',Inv X ζ σ H' s'/\Q H') X.xe s
section
variable{X:Cx}{pos:Pos}
def cD(i:Nat):TG:=λv σ H Q=>Q (σ.set i (some v)) H
theorem pU{i:Nat}{x:Str}(hN:X.N.Nodup)(hi:X.N[i]?=some x)(hx:aG X.env.scope x)(hf:X.fn x=true∨X.env.scope.names.lookup x=some .local:=by first|exact .inl rfl|exact .inr rfl|assumption):PG X (.Name x pos) (cD i):=by
 intro ζ s σ H v u Q I r h;exact wpAny_assign_Name (pE I hN hi hx r (λs' I'=>⟨_,H,I',h⟩) hf)
def pV:U6:=λvs σ H Q=>vs=[]/\Q σ H
def pW(t:TG)(u:U6):U6:=λvs σ H Q=>∃v r,vs=v::r/\t v σ H fun σ' H'=>u r σ' H' Q
theorem Bf:cB X [] pV:=by
 intro ζ s σ H vs us Q I r h;obtain⟨e,h⟩:=h;subst e;cases r;exact assignInOrder_nil ⟨σ,H,I,h⟩
theorem Bg{e:Expr}{es:List Expr}{t:TG}{u:U6}(h1:PG X e t)(h2:cB X es u)
  (hs:(assignEach (e::es) X.env).map (·.2)=assign e X.env::(assignEach es X.env).map (·.2):=by rfl):cB X (e::es) (pW t u):=by
 intro ζ s σ H vs us Q I r h;obtain⟨v,vr,e1,h⟩:=h;subst e1;cases r with
 |cons r rr=>
  rw[hs];refine assignInOrder_cons (A7 (h1 ζ s σ H _ _ _ I r h) λ_ s1 h9=>?_);obtain⟨σ1,H1,I1,q1⟩:=h9;exact h2 ζ s1 σ1 H1 _ _ Q I1 rr q1
def pX(K:Frag)(n:Nat)(t:U6):TG:=λv σ H Q=>∃a xs,v=.ref a/\SqT K H a xs/\xs.length=n/\t xs σ H Q
theorem Bh{es:List Expr}{k:Nat}{t:U6}{n:Nat}(hc:X.calm=true)(h:cB X es t)
  (hn:(assignEach es X.env).length=n:=by rfl) (hst:(assignEach es X.env).findIdx? (·.1)=none:=by rfl):PG X (.Tuple es k pos) (pX X.K n t):=by
 intro ζ s σ H v u Q I r hw;obtain⟨a,xs,e1,hq,hl,hw⟩:=hw;subst e1;cases r;obtain⟨its,rv,ht,hz⟩:=I.tuple hq;refine assign_Tuple_tuple (I.ok.hd hc) ht (by simp[hn,←hl,rv.length]) hst λh' hx=>?_
 have I1:Inv X ζ σ H {s with heap:=h'}:=I.kept (t':=s.toks) λb o e=>hx b o (ne_of_lt (Heap.lt_size e)) e
 exact h ζ _ σ H xs _ Q I1 (by simpa using rv) hw
def pY(to ti:TE)(t:cC):TG:=λv σ H Q=>to σ H λo H1=>ti σ H1 λi H2=>t o i v H2 λH3=>Q σ H3
theorem Bi{o i:Expr}{to ti:TE}{t:cC}(ho:PE X o to)(hi:PE X i ti)(hs:PSet X t)
  (ha:∀v,assign (.Subscript o i pos) X.env v=(do
   let ov ←holding [v] (eval o X.env)
   let iv ←holding [v,ov] (eval i X.env)
   standAt pos
   holding [v,ov,iv] (setItem ov iv v)
   release [v,ov,iv] []):=by intro _;rfl):PG X (.Subscript o i pos) (pY to ti t):=by
 intro ζ s σ H v u Q I r h;rw[ha];refine wpAny_bind (wpAny_holding (A7 (ho ζ s σ H _ I h) λov s1 ⟨x,H1,I1,r1,q1⟩=>?_));refine wpAny_bind (wpAny_holding (A7 (hi ζ s1 σ H1 _ I1 q1) λiv s2 ⟨y,H2,I2,r2,q2⟩=>?_));refine wpAny_bind (wpAny_standAt (wpAny_bind (wpAny_holding (A7 (hs ζ s2 σ H2 x y v ov iv u _ I2 r1 r2 r q2) λ_ s3 ⟨H3,I3,q3⟩=>?_))));exact wpAny_release ⟨σ,H3,I3,q3⟩
def eQ(te:TE)(g:TG):TS:=λD σ H=>te σ H λx H1=>g x σ H1 D.nx
theorem Bj{tg e:Expr}{te:TE}{g:TG}(he:PE X e te)(hg:PG X tg g)(hs:swapsWithSole [tg] e pos.line X.env=pure false:=by rfl)(hw:swappedStores [tg] e X.env=pure none:=by rfl)
  (h1:(assignEach [tg] X.env).map (·.2)=[assign tg X.env]:=by rfl):PS X (.Assign [tg] e pos) (eQ te g):=by
 intro ζ s σ H D I h;refine wpAny_Assign_stores (A7 (he ζ s σ H _ I h) λv s1 ⟨x,H1,I1,r1,q1⟩=>?_) hs hw;rw[h1];exact A7 (hg ζ s1 σ H1 x v _ I1 r1 q1) λ_ s2 q=>q
theorem Bk{i:Nat}{x:Str}{e:Expr}{te:TE}{pos':Pos}(hN:X.N.Nodup)(hi:X.N[i]?=some x)(hx:aG X.env.scope x)(he:PE X e te)(hs:swapsWith e (some (.Name x pos')) pos.line X.env=pure false:=by rfl)(hf:X.fn x=true∨X.env.scope.names.lookup x=some .local:=by first|exact .inl rfl|exact .inr rfl|assumption):
  PS X (.Assign [.Name x pos'] e pos) (eQ te (cD i)):=by
 intro ζ s σ H D I h;refine wpAny_Assign_Name (A7 (he ζ s σ H _ I h) λv s1 h9=>?_) hs;obtain⟨y,H1,I1,r1,q1⟩:=h9;exact pE I1 hN hi hx r1 (λs2 I2=>⟨_,H1,I2,q1⟩) hf
end
section
variable{X:Cx}{pos:Pos}
def pZ(c:TT)(tb:TS):TS:=λD σ H=>∃W:Nat->St->Hp->Prop,(∃m,W m σ H)/\∀m σ H,W m σ H->
 c σ H λb H1=>if b=true then ∃N:St->Hp->Prop,(∀σ' H',N σ' H'->∃m',m'<m/\W m' σ' H')/\tb {D with nx:=N,ct:=N,bk:=D.nx} σ H1 else D.nx σ H1
theorem Bl{c:Expr}{body:List Stmt}{tc:TT}{tb:TS}(hp:PassesOwn (model X.prog X.w) X.A X.env X.xe)(hc:PT X c tc)(hb:PSs X body tb):PS X (.While c body [] pos) (pZ tc tb):=by
 intro ζ s σ H D I h;obtain⟨W,⟨m0,w0⟩,turn⟩:=h;refine wpAny_While (codeAny_whileLoop (λn s'=>∃σ' H',Inv X ζ σ' H' s'/\W n σ' H') ?_ m0 ⟨σ,H,I,w0⟩);rintro n s1 ⟨σ1,H1,I1,w1⟩;refine wpAny_passesOwn hp (A7 (hc ζ s1 σ1 H1 _ I1 (turn n σ1 H1 w1)) λb s2 h9=>?_);obtain⟨H2,I2,q2⟩:=h9;cases b with
 |true=>
  obtain⟨N,hN,q2⟩:=q2;rw[if_pos rfl];refine wpAny_passesOwn hp (A7 (hb ζ s2 σ1 H2 _ I2 q2) λf s3 q3=>?_);cases f with
  |next=>
   obtain⟨σ3,H3,I3,n3⟩:=q3;obtain⟨m',hm,w3⟩:=hN σ3 H3 n3;exact⟨m',hm,σ3,H3,I3,w3⟩
  |cont=>
   obtain⟨σ3,H3,I3,n3⟩:=q3;obtain⟨m',hm,w3⟩:=hN σ3 H3 n3;exact⟨m',hm,σ3,H3,I3,w3⟩
  |brk=>exact q3
  |ret v=>exact q3
 |false=>
  rw[if_neg Bool.false_ne_true];exact wpAny_execs_nil ⟨σ1,H2,I2,q2⟩
end
structure It where
 go:Nat->Hp->Prop
 yld:Nat->Hp->V->Hp->Prop
 stop:Nat->Hp->Prop
def E7(X:Cx)(ζ:List (Addr×Obj))(H:Hp)(b:Addr):Prop:=
 H b=none/\b≠X.env.locals/\b∉X.fs/\(b∈X.ex∨X.s₀.heap.objs.size<=b)/\(∀x c,X.env.cells.lookup x=some c->c≠b)/\∀p∈X.pn++ζ,p.1≠b
theorem Inv.fpOk{X:Cx}{ζ:List (Addr×Obj)}{σ:St}{H H':Hp}{s:Shared}{b:Addr}(I:Inv X ζ σ H s)(hb:s.heap.objs.size<=b)(hn:H' b=none):E7 X ζ H' b:=by
 refine⟨hn,ne_of_gt (lt_of_lt_of_le I.lt hb),I.nofs hb,.inr (le_trans I.sz hb),λx c e z=>?_,λp hp z=>?_⟩
 ·obtain⟨v,q⟩:=I.cell x c e
  exact absurd (lt_of_lt_of_le q.lt (by rw[z];exact hb)) (lt_irrefl _)
 ·exact absurd (lt_of_lt_of_le (Heap.lt_size (I.pin p hp).1) (by rw[z];exact hb)) (lt_irrefl _)
structure Turn(P:Program)(w:World)(K:Frag)(tg:Expr)(J:It)(fp:List Addr)(it:Addr)(tn:Nat->Heap->Prop):Prop where
 mem:it∈fp
 obj:∀i h,tn i h->∀b∈fp,∃o,h.get? b=some o/\∀v,o.data≠.cell v
 keep:∀i h h',tn i h->(∀b∈fp,∀o,h.get? b=some o->h'.get? b=some o)->tn i h'
 item:∀(X:Cx),X.prog=P->X.w=w->X.K=K->X.calm=true->∀(i:Nat)(ζ:List (Addr×Obj))(s:Shared)(σ:St)(H:Hp)(E:Value->Shared->Prop),Inv X ζ σ H s->(∀b∈fp,E7 X ζ H b)->tn i s.heap->J.go i H->
  wpAny (model P w) X.A (pyNext (.ref it)) (λr s1=>∃u,r=some u/\
   wpAny (model P w) X.A (letOwnedTupleGo tg (.ref it) u) (λ_ s2=>∃x H',Inv X ζ σ H' s2/\RelV x u/\J.yld i H x H'/\tn (i+1) s2.heap/\∀b∈fp,H' b=none) E s1) E s
 done:∀(X:Cx),X.prog=P->X.w=w->X.K=K->X.calm=true->∀(i:Nat)(ζ:List (Addr×Obj))(s:Shared)(σ:St)(H:Hp)(E:Value->Shared->Prop),Inv X ζ σ H s->(∀b∈fp,E7 X ζ H b)->tn i s.heap->J.stop i H->
  wpAny (model P w) X.A (pyNext (.ref it)) (λr s1=>r=none/\Inv X ζ σ H s1) E s
 self:∀(A:Around)(i:Nat)(s:Shared)(Q:Value->Shared->Prop)(E:Value->Shared->Prop),tn i s.heap->Q (.ref it) s->wpAny (model P w) A (pyIter (.ref it)) Q E s
abbrev TI:=St->Hp->(It->Hp->Prop)->Prop
def qA(X:Cx)(ζ:List (Addr×Obj))(σ:St)(tg:Expr)(R:It->Hp->Prop)(itv:Value)(s2:Shared):Prop:=
 ∃(it:Addr)(fp:List Addr)(tn:Nat->Heap->Prop)(J:It)(H':Hp),itv=.ref it/\Inv X ζ σ H' s2/\Turn X.prog X.w X.K tg J fp it tn/\tn 0 s2.heap/\(∀b∈fp,E7 X ζ H' b)/\R J H'
def PI(X:Cx)(tg iter:Expr)(wi:TI):Prop:=
 ∀(ζ:List (Addr×Obj))(s:Shared)(σ:St)(H:Hp)(R:It->Hp->Prop),Inv X ζ σ H s->wi σ H R->
  wpAny (model X.prog X.w) X.A (eval iter X.env) (λv s1=>wpAny (model X.prog X.w) X.A (pyIter v) (qA X ζ σ tg R) X.xe s1) X.xe s
theorem eR{M:Model}{A:Around}{E:Value->Shared->Prop}{s:Shared}{tg:Expr}{it:Addr}{u:Value}{o:Obj}{n:String}{vs:Array Value}{Q:Unit->Shared->Prop}(ho:s.heap.get? it=some o)(hc:o.cls=.type n)(hd:o.data=.fields vs)
  (hn:["enumerate","zip","dict_itemiterator","dict_reverseitemiterator","odict_iterator","itertools.zip_longest","itertools.pairwise"].contains n=false) (hQ:Q () s):wpAny M A (letOwnedTupleGo tg (.ref it) u) Q E s:=by
 unfold letOwnedTupleGo;cases tg<;>first
  |exact wpAny_pure hQ
  |(cases u<;>first
    |exact wpAny_pure hQ
    |(refine wpAny_bind (wpAny_load ho ?_)
      rw[hc,hd];show wpAny M A (if(["enumerate","zip","dict_itemiterator","dict_reverseitemiterator","odict_iterator","itertools.zip_longest","itertools.pairwise"].contains n&&vs[0]?==some (rawInt _))=true then _ else _) Q E s;rw[if_neg (by intro h;rw[hn,Bool.false_and]at h;cases h)];exact wpAny_pure hQ))
def aI(K:Frag)(a:Addr):It:=
 ⟨λi H=>∃xs x,SqL K H a xs/\xs[i]?=some x,λi H x H'=>H'=H/\∀xs,SqL K H a xs->xs[i]?=some x,λi H=>∃xs,SqL K H a xs/\xs.length<=i⟩
def eS(lo:Int)(n:Nat):It:=⟨λi _=>i<n,λi H x H'=>H'=H/\x=.int (lo+i),λi _=>n<=i⟩
theorem Bm{P:Program}{w:World}{K:Frag}{tg:Expr}(a it:Addr):Turn P w K tg (aI K a) [it] it (λi h=>h.IsListIter it a i) where
 mem:=by simp
 obj:=λi h st b hb=>by
  have e:b=it:=by simpa using hb
  subst e;obtain⟨o,e,c,d⟩:=st;exact⟨o,e,λv z=>by rw[d]at z;cases z⟩
 keep:=λi h h' st k=>st.at λo e=>k it (!2) o e
 item:=by
  intro X hP hw hK hc i ζ s σ H E I hf st hg;subst hP hw hK;obtain⟨xs,x,hq,hx⟩:=hg;obtain⟨its,rv,p,hz⟩:=I.list hq;obtain⟨u,hu,ru⟩:=rv.get hx;obtain⟨f0,f1,f2,f3,f4,f5⟩:=hf it (!2);refine wpAny_pyNext_list_item st p.isList (x:=u) (by simpa using hu) λh' st' sb=>?_
  have I1:Inv X ζ σ H {s with heap:=h'}:=I.turned (t':=s.toks) (λb o hb e=>(sb.2 b hb).trans e) f0 f1 f3 f4 f5;obtain⟨o,e,c,d⟩:=id st';exact⟨u,rfl,eR (s:={s with heap:=h'}) e c d (!3) ⟨x,H,I1,ru,⟨rfl,λys hy=>by rw[I.list_inj hy hq];exact hx⟩,st',λb hb=>(hf b hb).1⟩⟩
 done:=by
  intro X hP hw hK hc i ζ s σ H E I hf st hg;subst hP hw hK;obtain⟨xs,hq,hx⟩:=hg;obtain⟨its,rv,p,hz⟩:=I.list hq;obtain⟨f0,f1,f2,f3,f4,f5⟩:=hf it (!2);have hl:=rv.length;exact wpAny_pyNext_list_end (I.ok.hd hc) st p.isList (by simp;omega) λh' eb=>⟨rfl,I.turned (t':=s.toks) (λb o hb e=>eb b o hb e) f0 f1 f3 f4 f5⟩
 self:=λ_ _ _ _ _ st h=>wpAny_pyIter_listiter st h
theorem Bo{P:Program}{w:World}{K:Frag}{tg:Expr}(it:Addr)(lo:Int)(n:Nat):Turn P w K tg (eS lo n) [it] it (λi h=>IsRangeIter h it (lo+(i:Nat)*1) ((n:Int)-(i:Nat)) 1) where
 mem:=by simp
 obj:=λi h st b hb=>by
  have e:b=it:=by simpa using hb
  subst e;exact⟨_,st,λv z=>by
   have z':Data.fields _=Data.cell v:=z;cases z'⟩
 keep:=λi h h' st k=>k it (!2) _ st
 item:=by
  intro X hP hw hK hc i ζ s σ H E I hf st hg;subst hP hw hK;obtain⟨f0,f1,f2,f3,f4,f5⟩:=hf it (!2);have W:=Walks.range (prog:=X.prog) (w:=X.w) (I.ok.hd hc) it lo 1 n;refine W.item i s _ _ hg st λv h' tk hv st' kk=>?_
  obtain⟨t,rfl⟩:=hv;have I1:Inv X ζ σ H {s with heap:=h',toks:=tk}:=I.turned (λb o hb e=>kk b o (by simpa using hb) e) f0 f1 f3 f4 f5;refine⟨_,rfl,eR (s:={s with heap:=h',toks:=tk}) (n:="range_iterator") st' rfl rfl (!3) ⟨.int (lo+i),H,I1,⟨t,?_⟩,⟨rfl,rfl⟩,st',λb hb=>(hf b hb).1⟩⟩;rw[Int.mul_one]
 done:=by
  intro X hP hw hK hc i ζ s σ H E I hf st hg;subst hP hw hK;obtain⟨f0,f1,f2,f3,f4,f5⟩:=hf it (!2);exact wpAny_pyNext_range_end (I.ok.hd hc) st (by have:n<=i:=hg;omega) λh' eb=>⟨rfl,I.turned (t':=s.toks) (λb o hb e=>eb b o hb e) f0 f1 f3 f4 f5⟩
 self:=λ_ _ _ _ _ st h=>wpAny_pyIter_rangeiter st h
end L2
namespace L2
open PySem PySem.Spec PyProof.Rows
section
variable{X:Cx}{tg:Expr}
def qB(K:Frag)(tl:TE):TI:=fun σ H R=>tl σ H λx H1=>∃a,x=.ref a/\(∃xs,SqL K H1 a xs)/\R (aI K a) H1
theorem iQ{l:Expr}{tl:TE}(hl:PE X l tl):PI X tg l (qB X.K tl):=by
 intro ζ s σ H R I h;refine A7 (hl ζ s σ H _ I h) λv s1 ⟨x,H1,I1,r1,q1⟩=>?_
 obtain⟨a,e,⟨xs,hq⟩,q⟩:=q1;subst e;cases r1;obtain⟨its,rv,p,hz⟩:=I1.list hq;refine wpAny_pyIter_list p.isList ?_;refine⟨s1.heap.objs.size,[s1.heap.objs.size],_,_,H1,rfl,I1.kept (t':=s1.toks) λb o e=>Heap.get?_push_of_some _ e,Bm a _,⟨_,Heap.get?_push_size _ rfl,rfl,rfl⟩,λb hb=>?_,q⟩;have e:b=s1.heap.objs.size:=by simpa using hb
 subst e;exact I1.fpOk (le_refl _) (I1.hok.fresh (le_refl _))
theorem Bp{ζ:List (Addr×Obj)}{σ:St}{H:Hp}{s:Shared}{R:It->Hp->Prop}{E:Value->Shared->Prop}{lo hi:Int}{t u v:Tok}{tk:Nat}(I:Inv X ζ σ H s)(h1 : -(2^62)<=lo)(h2:lo<2^62)(h3 : -(2^62)<=hi)(h4:hi<2^62)
  (q:R (eS lo (hi-lo).toNat) H):wpAny (model X.prog X.w) X.A (pyIter (.ref s.heap.objs.size)) (qA X ζ σ tg R) E {s with heap:=s.heap.push {cls:=.type "range",data:=.fields #[.int lo t,.int hi u,.int 1 v]},toks:=tk}:=by
 refine wpAny_pyIter_range (IsRange.new ..) (small_one h1 h2 h3 h4) ?_;have I1:Inv X ζ σ H {s with heap:=s.heap.push {cls:=.type "range",data:=.fields #[.int lo t,.int hi u,.int 1 v]},toks:=tk}:=I.kept λb o e=>Heap.get?_push_of_some _ e
 refine⟨(s.heap.push {cls:=.type "range",data:=.fields #[.int lo t,.int hi u,.int 1 v]}).objs.size,[(s.heap.push {cls:=.type "range",data:=.fields #[.int lo t,.int hi u,.int 1 v]}).objs.size],_,_,H,rfl,
  I1.kept (t':=tk) λb o e=>Heap.get?_push_of_some _ e,Bo _ lo (hi-lo).toNat,?_,λb hb=>?_,q⟩
 ·have e1:lo+((0:Nat):Int)*1=lo:=by simp
  have e2:(((hi-lo).toNat:Nat):Int)-((0:Nat):Int)=Builtin.Range.rangeSize lo hi 1:=by rw[rangeSize_one];split<;>omega
  show IsRangeIter _ _ (lo+((0:Nat):Int)*1) ((((hi-lo).toNat:Nat):Int)-((0:Nat):Int)) 1;rw[e1,e2];exact Heap.get?_push_size _ rfl
 ·have e:b=(s.heap.push {cls:=.type "range",data:=.fields #[.int lo t,.int hi u,.int 1 v]}).objs.size:=by simpa using hb
  subst e;exact I1.fpOk (le_refl _) (I1.hok.fresh (le_refl _))
def qC(ta:TA):TI:=fun σ H R=>ta σ H λvs H1=>∃j:Int,vs=[.int j]/\-(2^62)<=j/\j<2^62/\R (eS 0 j.toNat) H1
theorem Bq{a:Expr}{ta:TA}{p pos:Pos}(hg:Gl X "range")(hm:X.mg "range"=none)(ha:PA X [a] ta)(hs:starEach [a] X.env=[(false,eval a X.env)]:=by rfl):PI X tg (.Call (.Name "range" p) [a] [] pos) (qC ta):=by
 intro ζ s σ H R I h;refine Call_ (W1 I hg hm boot_range (PyProof.Rows.callWith_type1 (A7 (ha pos ζ s σ H _ I h) λus s1 ⟨vs,H1,I1,r1,q1⟩=>?_) hs rfl));obtain⟨j,e,q1,q2,q⟩:=q1;subst e;cases r1 with
 |cons r rr=>
  cases rr;obtain⟨t,rfl⟩:=r;exact call_range_1 (Bp I1 (!1) (!1) q1 q2 (by simpa using q))
def qD(wi:TI)(g:TG)(tb:TS):TS:=λD σ H=>wi σ H λJ H1=>∃W:Nat->Nat->St->Hp->Prop,(∃m,W 0 m σ H1)/\∀i m σ H,W i m σ H->
 (J.stop i H/\D.nx σ H)∨(J.go i H/\∃N:St->Hp->Prop,(∀σ' H',N σ' H'->∃m',m'<m/\W (i+1) m' σ' H')/\∀x H',J.yld i H x H'->g x σ H' fun σ2 H2=>tb {D with nx:=N,ct:=N,bk:=D.nx} σ2 H2)
def eT(fp:List Addr)(h:Heap):List (Addr×Obj):=fp.filterMap λb=>(h.get? b).map λo=>(b,o)
theorem eU{fp:List Addr}{h:Heap}{b:Addr}{o:Obj}(hb:b∈fp)(e:h.get? b=some o):(b,o)∈eT fp h:=mem_filterMap.mpr ⟨b,hb,by rw[e];rfl⟩
theorem Br{fp:List Addr}{h:Heap}{p:Addr×Obj}(hp:p∈eT fp h):p.1∈fp/\h.get? p.1=some p.2:=by
 obtain⟨b,hb,e⟩:=mem_filterMap.mp hp;cases q:h.get? b with
 |none=>rw[q]at e;cases e
 |some o=>
  rw[q]at e;have e':(b,o)=p:=Option.some.inj e;subst e';exact⟨hb,q⟩
theorem Inv.pinned{ζ:List (Addr×Obj)}{σ:St}{H:Hp}{s:Shared}{fp:List Addr}(I:Inv X ζ σ H s)(hf:∀b∈fp,E7 X ζ H b)(ho:∀b∈fp,∃o,s.heap.get? b=some o/\∀v,o.data≠.cell v):Inv X (ζ++eT fp s.heap) σ H s:=
 I.pins_of λp hp=>(mem_append.mp hp).elim (λz=>I.pin p (mem_append_right _ z)) λz=>by
  obtain⟨hb,e⟩:=Br z;obtain⟨f0,f1,f2,_⟩:=hf p.1 hb;obtain⟨o,e',d⟩:=ho p.1 hb;rw[e]at e';cases e';exact⟨e,f0,f1,f2,d⟩
theorem Inv.unpinned{ζ pl:List (Addr×Obj)}{σ:St}{H:Hp}{s:Shared}(I:Inv X (ζ++pl) σ H s):Inv X ζ σ H s:=I.pins_of λp hp=>I.pin p (mem_append_right _ (mem_append_left _ hp))
theorem Bs{iter:Expr}{body:List Stmt}{wi:TI}{g:TG}{tb:TS}{pos:Pos}(hp:PassesOwn (model X.prog X.w) X.A X.env X.xe)(hc:X.calm=true)(hi:PI X tg iter wi)(hg:PG X tg g)(hb:PSs X body tb)
  (hs:∀x,foldedSetIterable iter X.env x=pure x:=by intro _;rfl):PS X (.For tg iter body [] pos) (qD wi g tb):=by
 intro ζ s σ H D I h;refine wpAny_For (A7 (hi ζ s σ H _ I h) λv s1 h1=>A7 h1 λitv s2 h2=>?_) hs;obtain⟨it,fp,tn,J,H2,e,I2,T,st2,f2,W,⟨m0,w0⟩,turn⟩:=h2;subst e;have stat:∀{H':Hp},(∀b∈fp,H' b=none)->∀b∈fp,E7 X ζ H' b:=λhn b hb=>⟨hn b hb,(f2 b hb).2⟩
 refine codeAny_forLoop_any (λn s'=>∃i σ' H',Inv X ζ σ' H' s'/\tn i s'.heap/\(∀b∈fp,H' b=none)/\W i n σ' H') ?_ m0 ⟨0,σ,H2,I2,st2,λb hb=>(f2 b hb).1,w0⟩;rintro n s3 ⟨i,σ3,H3,I3,st3,fr3,w3⟩;rcases turn i n σ3 H3 w3 with⟨stop,qn⟩|⟨go,N,hN,step⟩
 ·refine wpAny_passesOwn hp (A7 (T.done X rfl rfl rfl hc i ζ s3 σ3 H3 X.xe I3 (stat fr3) st3 stop) λr s4 ⟨hr,I4⟩=>?_)
  subst hr;exact wpAny_execs_nil ⟨σ3,H3,I4,qn⟩
 ·refine wpAny_passesOwn hp (A7 (T.item X rfl rfl rfl hc i ζ s3 σ3 H3 X.xe I3 (stat fr3) st3 go) λr s4 ⟨u,hr,h4⟩=>?_)
  subst hr;refine wpAny_passesOwn hp (A7 h4 λ_ s5 h9=>?_);obtain⟨x,H5,I5,r5,y5,st5,fr5⟩:=h9;have I5':=I5.pinned (stat fr5) (T.obj _ _ st5);refine wpAny_passesOwn hp (A7 (hg _ s5 σ3 H5 x u _ I5' r5 (step x H5 y5)) λ_ s6 h9=>?_);obtain⟨σ6,H6,I6,q6⟩:=h9;refine wpAny_passesOwn hp (A7 (hb _ s6 σ6 H6 _ I6 q6) λf s7 q7=>?_);have again:∀{σ7:St}{H7:Hp},Inv X (ζ++eT fp s5.heap) σ7 H7 s7->N σ7 H7->∃m,m<n/\∃i σ' H',Inv X ζ σ' H' s7/\tn i s7.heap/\(∀b∈fp,H' b=none)/\W i m σ' H':=λ{σ7 H7} I7 n7=>by
   obtain⟨m',hm,w7⟩:=hN σ7 H7 n7;refine⟨m',hm,i+1,σ7,H7,I7.unpinned,T.keep _ _ _ st5 λb hb o e=>(I7.pin (b,o) (mem_append_right _ (mem_append_right _ (eU hb e)))).1,λb hb=>?_,w7⟩;obtain⟨o,e,d⟩:=T.obj _ _ st5 b hb;exact(I7.pin (b,o) (mem_append_right _ (mem_append_right _ (eU hb e)))).2.1
  cases f with
  |next=>obtain⟨σ7,H7,I7,n7⟩:=q7;exact again I7 n7
  |cont=>obtain⟨σ7,H7,I7,n7⟩:=q7;exact again I7 n7
  |brk=>obtain⟨σ7,H7,I7,q7⟩:=q7;exact⟨σ7,H7,I7.unpinned,q7⟩
  |ret v=>obtain⟨x7,σ7,H7,I7,r7,q7⟩:=q7;exact⟨x7,σ7,H7,I7.unpinned,r7,q7⟩
end
end L2
namespace L2
open PySem PySem.Spec PyProof.Rows
abbrev R2:=V->V->Hp->VK->Prop
def OpR(X:Cx)(f:Value->Value->Sem Value)(r:R2):Prop:=
 ∀(ζ:List (Addr×Obj))(s:Shared)(σ:St)(H:Hp)(x y:V)(v u:Value)(Q:VK),Inv X ζ σ H s->RelV x v->RelV y u->r x y H Q->
  wpAny (model X.prog X.w) X.A (f v u) (EP X ζ σ Q) X.xe s
def CallR(X:Cx)(f:Value)(r:List V->Hp->VK->Prop):Prop:=
 ∀(ζ:List (Addr×Obj))(s:Shared)(σ:St)(H:Hp)(xs:List V)(us:List Value)(Q:VK),Inv X ζ σ H s->Vals xs us->r xs H Q->
  wpAny (model X.prog X.w) X.A (call f us) (EP X ζ σ Q) X.xe s
def Bt(X:Cx)(r:V->Hp->(Bool->Hp->Prop)->Prop):Prop:=
 ∀(ζ:List (Addr×Obj))(s:Shared)(σ:St)(H:Hp)(x:V)(v:Value)(Q:Bool->Hp->Prop),Inv X ζ σ H s->RelV x v->r x H Q->
  wpAny (model X.prog X.w) X.A (truthy v) (TP X ζ σ Q) X.xe s
def T7(r:R2)(ta tb:TE):TE:=fun σ H Q=>ta σ H λx H1=>tb σ H1 λy H2=>r x y H2 Q
def rI(C:Int->Int->Prop)(g:Int->Int->V):R2:=λx y H Q=>∃i j,x=.int i/\y=.int j/\C i j/\Q (g i j) H
def R1(g:Int->Int->V):R2:=λx y H Q=>∃i j,x=.int i/\y=.int j/\Q (g i j) H
section
variable{X:Cx}{a b c:Expr}{ta tb tc:TE}{pos:Pos}
theorem iR(ha:PE X a ta)(hb:PE X b tb){ζ:List (Addr×Obj)}{s:Shared}{σ:St}{H:Hp}{R:V->V->Hp->Prop}(I:Inv X ζ σ H s)
  (h:ta σ H λx H1=>tb σ H1 λy H2=>R x y H2) {Q:Value->Shared->Prop} {f:Value->Value->Sem Value}
  (hf:∀v u s2 x y H2,Inv X ζ σ H2 s2->RelV x v->RelV y u->R x y H2->wpAny (model X.prog X.w) X.A (f v u) Q X.xe s2):
  wpAny (model X.prog X.w) X.A (eval a X.env) (λv s₁=>wpAny (model X.prog X.w) X.A (eval b X.env) (λu s₂=>wpAny (model X.prog X.w) X.A (f v u) Q X.xe s₂) X.xe s₁) X.xe s:=by
 refine A7 (ha ζ s σ H _ I h) λv s1 ⟨x,H1,I1,r1,q1⟩=>?_
 refine A7 (hb ζ s1 σ H1 _ I1 q1) λu s2 ⟨y,H2,I2,r2,q2⟩=>?_
 exact hf v u s2 x y H2 I2 r1 r2 q2
theorem Bu{op:Operator}{r:R2}(ho:OpR X (binaryOp op) r)(ha:PE X a ta)(hb:PE X b tb):PE X (.BinOp a op b pos) (T7 r ta tb):=by
 intro ζ s σ H Q I h;exact wpAny_BinOp (iR ha hb I h λv u s2 x y H2 I2 rx ry q=>ho ζ s2 σ H2 x y v u Q I2 rx ry q)
theorem eV{f:Value->Value->Sem Value}{C:Int->Int->Prop}{g:Int->Int->Int}
  (rule:∀(i j:Int)(t u:Tok)(s:Shared)(Q:Value->Shared->Prop)(E:Value->Shared->Prop),C i j->Q (.int (g i j) s.toks) {s with toks:=s.toks+1}->wpAny (model X.prog X.w) X.A (f (.int i t) (.int j u)) Q E s):
  OpR X f (rI C λi j=>.int (g i j)):=by
 intro ζ s σ H x y v u Q I rx ry h;obtain⟨i,j,rfl,rfl,hc,q⟩:=h;obtain⟨t,rfl⟩:=rx;obtain⟨t',rfl⟩:=ry;exact rule i j t t' s _ _ hc ⟨.int (g i j),H,I.tok _,⟨_,rfl⟩,q⟩
theorem qE{f:Value->Value->Sem Value}{g:Int->Int->Int}
  (rule:∀(i j:Int)(t u:Tok)(s:Shared)(Q:Value->Shared->Prop)(E:Value->Shared->Prop),Q (.int (g i j) s.toks) {s with toks:=s.toks+1}->wpAny (model X.prog X.w) X.A (f (.int i t) (.int j u)) Q E s):
  OpR X f (R1 λi j=>.int (g i j)):=by
 intro ζ s σ H x y v u Q I rx ry h;obtain⟨i,j,rfl,rfl,q⟩:=h;obtain⟨t,rfl⟩:=rx;obtain⟨t',rfl⟩:=ry;exact rule i j t t' s _ _ ⟨.int (g i j),H,I.tok _,⟨_,rfl⟩,q⟩
theorem iS{f:Value->Value->Sem Value}{g:Int->Int->Bool}
  (rule:∀(i j:Int)(t u:Tok)(s:Shared)(Q:Value->Shared->Prop)(E:Value->Shared->Prop),Q (.bool (g i j)) s->wpAny (model X.prog X.w) X.A (f (.int i t) (.int j u)) Q E s):
  OpR X f (R1 λi j=>.bl (g i j)):=by
 intro ζ s σ H x y v u Q I rx ry h;obtain⟨i,j,rfl,rfl,q⟩:=h;obtain⟨t,rfl⟩:=rx;obtain⟨t',rfl⟩:=ry;exact rule i j t t' s _ _ ⟨.bl (g i j),H,I,rfl,q⟩
def qF(i j:Int):Prop:=0<j/\j<1073741824
def qG(i j:Int):Prop:=0<=j/\j<=1000000/\i.natAbs<2^64
def CMul(i j:Int):Prop:=(-(2^64)<i/\i<2^64)∨(-(2^64)<j/\j<2^64)
theorem CMul.ok{i j:Int}(h:CMul i j):IntMulOk i j:=by
 rcases h with⟨h1,h2⟩|⟨h1,h2⟩
 ·exact .of_left (intBits_le_64 h1 h2)
 ·exact .of_right (intBits_le_64 h1 h2)
theorem Bv:OpR X (binaryOp .Add) (R1 λi j=>.int (i+j)):=qE λ_ _ _ _ _ _ _ q=>add_int q
theorem Bw:OpR X (binaryOp .Sub) (R1 λi j=>.int (i-j)):=qE λ_ _ _ _ _ _ _ q=>sub_int q
theorem Bx:OpR X (binaryOp .Mult) (rI CMul λi j=>.int (i*j)):=eV λ_ _ _ _ _ _ _ hc q=>mul_int q hc.ok
theorem By:OpR X (binaryOp .FloorDiv) (rI qF λi j=>.int (i / j)):=eV λi j _ _ _ _ _ hc q=>by
 have h1:(0:Int)<j:=hc.1;have h2:j<1073741824:=hc.2;exact floordiv_int (!1) (by rw[Int.fdiv_eq_ediv_of_nonneg i (!1)];exact q) (.inl (PyProof.noPylong_small (!1)))
theorem Bz:OpR X (binaryOp .Mod) (rI (λ_ j=>0<j) λi j=>.int (i % j)):=eV λi j _ _ _ _ _ hc q=>by
 have h1:(0:Int)<j:=hc;exact mod_int' (!1) (by rw[Int.fmod_eq_emod_of_nonneg i (!1)];exact q)
theorem BA:OpR X (binaryOp .Pow) (rI qG λi j=>.int (i^j.toNat)):=eV λ_ _ _ _ _ _ _ hc q=>pow_int_small hc.1 hc.2.1 hc.2.2 q
end
def iT:V->V->Bool
 |.non,.non=>true|.non,.int _=>true|.int _,.non=>true|.non,.bl _=>true|.bl _,.non=>true|.non,.str _=>true|.str _,.non=>true
 |.int _,.int _=>true|.bl _,.bl _=>true|.str _,.str _=>true|.byt _,.byt _=>true
 |.int _,.str _=>true|.str _,.int _=>true|.bl _,.str _=>true|.str _,.bl _=>true
 |_,_=>false
def qH:R2:=λx y H Q=>iT x y=true/\Q (.bl (decide (x=y))) H
def qI:R2:=λx y H Q=>iT x y=true/\Q (.bl (!decide (x=y))) H
theorem qJ{i j:Int}:decide (V.int i=V.int j)=(i==j):=by
 rw[Bool.eq_iff_iff];simp
theorem qK{i j:Bool}:decide (V.bl i=V.bl j)=(i==j):=by
 rw[Bool.eq_iff_iff];simp
theorem qL{i j:Str}:decide (V.str i=V.str j)=(i==j):=by
 rw[Bool.eq_iff_iff];simp
theorem qM{i j:Array UInt8}:decide (V.byt i=V.byt j)=(i.toList==j.toList):=by
 rw[Bool.eq_iff_iff];cases i;cases j;simp
section
variable{X:Cx}{a b c:Expr}{ta tb tc:TE}{pos:Pos}
theorem F2{ζ:List (Addr×Obj)}{σ:St}{H:Hp}{s:Shared}{Q:VK}{k k':Bool}(I:Inv X ζ σ H s)(q:Q (.bl k) H)(e:k=k'):EP X ζ σ Q (.bool k') s:=by
 subst e;exact⟨.bl k,H,I,rfl,q⟩
theorem BB:OpR X (compareOp .Eq) qH:=by
 intro ζ s σ H x y v u Q I rx ry h;obtain⟨hs,q⟩:=h;cases x with
 |non=>
  cases rx;cases y with
  |non=>cases ry;exact PySem.EqNone.eq_none_none (F2 I q (!2))
  |bl j=>cases ry;exact PySem.EqNone.eq_none_bool (F2 I q (!2))
  |int j=>obtain⟨t',rfl⟩:=ry;exact PySem.EqNone.eq_none_int (F2 I q (!2))
  |str j=>obtain⟨t',rfl⟩:=ry;exact PySem.EqNone.eq_none_str (F2 I q (!2))
  |_=>exact absurd (show false=true from hs) Bool.false_ne_true
 |bl i=>
  cases rx;cases y with
  |non=>cases ry;exact PySem.EqNone.eq_bool_none (F2 I q (!2))
  |bl j=>cases ry;exact eq_bool (F2 I q qK)
  |str j=>obtain⟨t',rfl⟩:=ry;exact PySem.EqMixed.eq_bool_str (F2 I q (!2))
  |_=>exact absurd (show false=true from hs) Bool.false_ne_true
 |int i=>
  obtain⟨t,rfl⟩:=rx;cases y with
  |non=>cases ry;exact PySem.EqNone.eq_int_none (F2 I q (!2))
  |int j=>obtain⟨t',rfl⟩:=ry;exact eq_int (F2 I q qJ)
  |str j=>obtain⟨t',rfl⟩:=ry;exact PySem.EqMixed.eq_int_str (F2 I q (!2))
  |_=>exact absurd (show false=true from hs) Bool.false_ne_true
 |str i=>
  obtain⟨t,rfl⟩:=rx;cases y with
  |non=>cases ry;exact PySem.EqNone.eq_str_none (F2 I q (!2))
  |bl j=>cases ry;exact PySem.EqMixed.eq_str_bool (F2 I q (!2))
  |int j=>obtain⟨t',rfl⟩:=ry;exact PySem.EqMixed.eq_str_int (F2 I q (!2))
  |str j=>obtain⟨t',rfl⟩:=ry;exact eq_str (F2 I q qL)
  |_=>exact absurd (show false=true from hs) Bool.false_ne_true
 |byt i=>
  obtain⟨t,rfl⟩:=rx;cases y with
  |byt j=>obtain⟨t',rfl⟩:=ry;exact PySem.W.eq_bytes (F2 I q qM)
  |_=>exact absurd (show false=true from hs) Bool.false_ne_true
 |_=>cases y<;>exact absurd (show false=true from hs) Bool.false_ne_true
theorem cE:OpR X (compareOp .NotEq) qI:=by
 intro ζ s σ H x y v u Q I rx ry h;obtain⟨hs,q⟩:=h;cases x with
 |non=>
  cases rx;cases y with
  |non=>cases ry;exact PySem.EqNone.ne_none_none (F2 I q (!2))
  |bl j=>cases ry;exact PySem.EqNone.ne_none_bool (F2 I q (!2))
  |int j=>obtain⟨t',rfl⟩:=ry;exact PySem.EqNone.ne_none_int (F2 I q (!2))
  |str j=>obtain⟨t',rfl⟩:=ry;exact PySem.EqNone.ne_none_str (F2 I q (!2))
  |_=>exact absurd (show false=true from hs) Bool.false_ne_true
 |bl i=>
  cases rx;cases y with
  |non=>cases ry;exact PySem.EqNone.ne_bool_none (F2 I q (!2))
  |bl j=>cases ry;exact ne_bool (F2 I q (congrArg not qK))
  |str j=>obtain⟨t',rfl⟩:=ry;exact PySem.EqMixed.ne_bool_str (F2 I q (!2))
  |_=>exact absurd (show false=true from hs) Bool.false_ne_true
 |int i=>
  obtain⟨t,rfl⟩:=rx;cases y with
  |non=>cases ry;exact PySem.EqNone.ne_int_none (F2 I q (!2))
  |int j=>obtain⟨t',rfl⟩:=ry;exact ne_int (F2 I q (congrArg not qJ))
  |str j=>obtain⟨t',rfl⟩:=ry;exact PySem.EqMixed.ne_int_str (F2 I q (!2))
  |_=>exact absurd (show false=true from hs) Bool.false_ne_true
 |str i=>
  obtain⟨t,rfl⟩:=rx;cases y with
  |non=>cases ry;exact PySem.EqNone.ne_str_none (F2 I q (!2))
  |bl j=>cases ry;exact PySem.EqMixed.ne_str_bool (F2 I q (!2))
  |int j=>obtain⟨t',rfl⟩:=ry;exact PySem.EqMixed.ne_str_int (F2 I q (!2))
  |str j=>obtain⟨t',rfl⟩:=ry;exact ne_str (F2 I q (congrArg not qL))
  |_=>exact absurd (show false=true from hs) Bool.false_ne_true
 |byt i=>
  obtain⟨t,rfl⟩:=rx;cases y with
  |byt j=>obtain⟨t',rfl⟩:=ry;exact PySem.W.ne_bytes (F2 I q (congrArg not qM))
  |_=>exact absurd (show false=true from hs) Bool.false_ne_true
 |_=>cases y<;>exact absurd (show false=true from hs) Bool.false_ne_true
theorem BC:OpR X (compareOp .Lt) (R1 λi j=>.bl (decide (i<j))):=iS λ_ _ _ _ _ _ _ q=>lt_int q
theorem BD:OpR X (compareOp .LtE) (R1 λi j=>.bl (decide (i<=j))):=iS λ_ _ _ _ _ _ _ q=>le_int q
theorem BE:OpR X (compareOp .Gt) (R1 λi j=>.bl (decide (j<i))):=iS λ_ _ _ _ _ _ _ q=>gt_int q
theorem OpR.or{f:Value->Value->Sem Value}{r r':R2}(h:OpR X f r)(h':OpR X f r'):OpR X f (λx y H Q=>r x y H Q∨r' x y H Q):=by
 intro ζ s σ H x y v u Q I rx ry q;rcases q with q|q
 ·exact h ζ s σ H x y v u Q I rx ry q
 ·exact h' ζ s σ H x y v u Q I rx ry q
theorem BF{op:CmpOp}{r:R2}(ho:OpR X (compareOp op) r)(ha:PE X a ta)(hb:PE X b tb)(hm:behindInMarks op b=false):PE X (.Compare a [op] [b] pos) (T7 r ta tb):=by
 intro ζ s σ H Q I h;exact wpAny_Compare1 (iR ha hb I h λv u s2 x y H2 I2 rx ry q=>ho ζ s2 σ H2 x y v u Q I2 rx ry q) hm
def eW(t:TE):TT:=fun σ H Q=>t σ H λx H'=>∃k,x=.bl k/\Q k H'
theorem BG{op:CmpOp}{r:R2}(ho:OpR X (compareOp op) r)(ha:PE X a ta)(hb:PE X b tb)(hm:behindInMarks op b=false):PT X (.Compare a [op] [b] pos) (eW (T7 r ta tb)):=by
 intro ζ s σ H Q I h;refine wpAny_isTrue_Compare1 (A7 (ha ζ s σ H _ I h) λv s1 ⟨x,H1,I1,r1,q1⟩=>A7 (hb ζ s1 σ H1 _ I1 q1) λu s2 ⟨y,H2,I2,r2,q2⟩=>
  A7 (ho ζ s2 σ H2 x y v u _ I2 r1 r2 q2) λc s3 ⟨z,H3,I3,r3,k,e,q3⟩=>?_) hm
 subst e;cases r3;exact wpAny_truthy_bool ⟨H3,I3,q3⟩
def qN(r r':R2)(ta tb tc:TE):TE:=fun σ H Q=>ta σ H λx H1=>tb σ H1 λy H2=>r x y H2 λz H3=>∃k,z=.bl k/\
 (if k=true then tc σ H3 λw' H4=>r' y w' H4 Q else Q (.bl false) H3)
theorem BH{op op':CmpOp}{r r':R2}(ho:OpR X (compareOp op) r)(ho':OpR X (compareOp op') r')(ha:PE X a ta)(hb:PE X b tb)(hc:PE X c tc)
  (hm:lastMarks [op,op'] [b,c]=false:=by with_unfolding_all rfl):PT X (.Compare a [op,op'] [b,c] pos) (eW (qN r r' ta tb tc)):=by
 intro ζ s σ H Q I h;refine isTrue_chain (A7 (ha ζ s σ H _ I h) λv s1 ⟨x,H1,I1,r1,q1⟩=>test_link (A7 (hb ζ s1 σ H1 _ I1 q1) λu s2 ⟨y,H2,I2,r2,q2⟩=>
  A7 (ho ζ s2 σ H2 x y v u _ I2 r1 r2 q2) λd s3 ⟨z,H3,I3,r3,k,e,q3⟩=>?_)) hm
 subst e;cases r3;refine wpAny_truthy_bool ?_;cases k with
 |false=>
  obtain⟨k',e',q'⟩:=q3;cases e';exact ite_ff ⟨H3,I3,q'⟩
 |true=>
  refine ite_tt (test_last (A7 (hc ζ s3 σ H3 _ I3 q3) λw' s4 ⟨z',H4,I4,r4,q4⟩=>A7 (ho' ζ s4 σ H4 y z' u w' _ I4 r2 r4 q4) λd' s5 ⟨z2,H5,I5,r5,k2,e2,q5⟩=>?_));subst e2;cases r5;exact wpAny_truthy_bool ⟨H5,I5,q5⟩
def iU(K:Frag)(x:V)(H:Hp)(k:Bool):Prop:=
 match x with
 |.non=>k=false
 |.bl b=>k=b
 |.int i=>k=(i != 0)
 |.str y=>y.length<=sizeLine/\k=((y.length:Int) != 0)
 |.byt y=>y.size<=sizeLine/\k=((y.size:Int) != 0)
 |.ref p=>(∃xs,SqL K H p xs/\k=!xs.isEmpty)∨(∃xs,SqT K H p xs/\k=!xs.isEmpty)∨∃kvs,H p=some (.dK kvs)/\k=!kvs.isEmpty
 |_=>False
theorem BI{κ:Type}{kvs:List (κ×V)}{vs:List (κ×Value)}(r:KV kvs vs):(!vs.isEmpty)=!kvs.isEmpty:=by
 cases r<;>rfl
theorem qO{xs:List V}{its:List Value}(r:Vals xs its):(!its.toArray.isEmpty)=!xs.isEmpty:=by
 cases r<;>simp
theorem aJ:(sizeLine:Nat)<2^63:=by rw[sizeLine_eq];decide
theorem BJ:Bt X (λx H Q=>∃k,iU X.K x H k/\Q k H):=by
 intro ζ s σ H x v Q I rx h;obtain⟨k,e,q⟩:=h;have hl:=aJ;have hs:sizeLine=16777216:=sizeLine_eq;cases x with
 |non=>
  cases rx;have e':k=false:=e;subst e';exact truthy_none ⟨H,I,q⟩
 |bl b=>
  cases rx;have e':k=b:=e;subst e';exact wpAny_truthy_bool ⟨H,I,q⟩
 |int i=>
  obtain⟨t,rfl⟩:=rx;have e':k=(i != 0):=e;subst e';exact PySem.P.truthy_int ⟨H,I,q⟩
 |str y=>
  obtain⟨t,rfl⟩:=rx;obtain⟨hy,e'⟩:y.length<=sizeLine/\k=((y.length:Int) != 0):=e;subst e';exact PySem.P.truthy_str (!1) ⟨H,I.tok _,q⟩
 |byt y=>
  obtain⟨t,rfl⟩:=rx;obtain⟨hy,e'⟩:y.size<=sizeLine/\k=((y.size:Int) != 0):=e;subst e';exact PySem.W.truthy_bytes (!1) ⟨H,I.tok _,q⟩
 |ref p=>
  cases rx;have e':(∃xs,SqL X.K H p xs/\k=!xs.isEmpty)∨(∃xs,SqT X.K H p xs/\k=!xs.isEmpty)∨∃kvs,H p=some (.dK kvs)/\k=!kvs.isEmpty:=e
  rcases e' with⟨xs,hx,e'⟩|⟨xs,hx,e'⟩|⟨kvs,hx,e'⟩
  ·subst e'
   obtain⟨its,r,pl,hz⟩:=I.list hx;have hlen:=r.length;exact wpAny_truthy_list pl.isList (by simp only[size_toArray];omega) ⟨H,I.tok _,by rw[qO r];exact q⟩
  ·subst e'
   obtain⟨its,r,pl,hz⟩:=I.tuple hx;have hlen:=r.length;exact truthy_tuple pl (by simp only[size_toArray];omega) ⟨H,I.tok _,by rw[qO r];exact q⟩
  ·subst e'
   obtain⟨hz,hS,vs,r,m⟩:kvs.length<=sizeLine/\(p==sysModules)=false/\∃vs,KV kvs vs/\s.heap.DictOf (K3 X.prog X.w) p vs:=I.hok p _ hx
   have hlen:kvs.length=vs.length:=Paired.length r;exact wpAny_truthy_dict hS m (!1) ⟨H,I.tok _,by rw[BI r];exact q⟩
 |_=>exact(show False from e).elim
theorem BK(ha:PE X a ta)(he:∀whole,isTrue a X.env whole=(do let v ←whole;standAt a.pos;holding [v] (truthy v))):
  PT X a (fun σ H Q=>ta σ H λx H'=>∃k,iU X.K x H' k/\Q k H'):=by
 intro ζ s σ H Q I h;exact isTrue_plain (A7 (ha ζ s σ H _ I h) λv s1 ⟨x,H1,I1,r1,q1⟩=>BJ ζ s1 σ H1 x v Q I1 r1 q1) (he _)
theorem BL:OpR X (binaryOp .Add) (λx y H Q=>∃i j,x=.str i/\y=.str j/\i.length+j.length<=sizeLine/\Q (.str (i++j)) H):=by
 intro ζ s σ H x y v u Q I rx ry h;obtain⟨i,j,rfl,rfl,hz,q⟩:=h;obtain⟨t,rfl⟩:=rx;obtain⟨t',rfl⟩:=ry;exact add_str (λt' tk=>⟨.str (i++j),H,I.tok _,⟨_,rfl⟩,q⟩) hz
theorem M3{x:V}{us:List Value}(r:Vals [x] us):∃u,us=[u]/\RelV x u:=by
 cases r with
 |cons r1 r2=>cases r2;exact⟨_,rfl,r1⟩
theorem qP{x y:V}{us:List Value}(r:Vals [x,y] us):∃u w',us=[u,w']/\RelV x u/\RelV y w':=by
 cases r with
 |cons r1 r2=>
  cases r2 with
  |cons r3 r4=>cases r4;exact⟨_,_,rfl,r1,r3⟩
theorem BN:CallR X (.type "int") (λxs H Q=>(∃i,xs=[.int i]/\Q (.int i) H)∨∃k,xs=[.bl k]/\Q (.int (if k then 1 else 0)) H):=by
 intro ζ s σ H xs us Q I r h;rcases h with⟨i,rfl,q⟩|⟨k,rfl,q⟩
 ·obtain⟨u,rfl,t,rfl⟩:=M3 r
  exact call_int_int ⟨.int i,H,I,⟨_,rfl⟩,q⟩
 ·obtain⟨u,rfl,r1⟩:=M3 r
  cases r1;exact call_int_bool ⟨.int (if k then 1 else 0),H,I.tok _,⟨_,rfl⟩,q⟩
def qQ(K:Frag)(x:V)(H:Hp)(n:Nat):Prop:=
 match x with
 |.str y=>y.length<=sizeLine/\n=y.length
 |.byt y=>y.size<=sizeLine/\n=y.size
 |.ref p=>(∃xs,SqL K H p xs/\n=xs.length)∨∃xs,SqT K H p xs/\n=xs.length
 |_=>False
theorem iV:CallR X (.builtin "len") (λxs H Q=>∃x n,xs=[x]/\qQ X.K x H n/\Q (.int n) H):=by
 intro ζ s σ H xs us Q I r h;obtain⟨x,n,rfl,e,q⟩:=h;obtain⟨u,rfl,rx⟩:=M3 r;have hl:=aJ;have hs:sizeLine=16777216:=sizeLine_eq;cases x with
 |str y=>
  obtain⟨t,rfl⟩:=rx;obtain⟨hy,e'⟩:y.length<=sizeLine/\n=y.length:=e;subst e';exact len_str (!1) ⟨.int _,H,I.tok _,⟨_,rfl⟩,q⟩
 |byt y=>
  obtain⟨t,rfl⟩:=rx;obtain⟨hy,e'⟩:y.size<=sizeLine/\n=y.size:=e;subst e';exact PySem.W.len_bytes (!1) ⟨.int _,H,I.tok _,⟨_,rfl⟩,q⟩
 |ref p=>
  cases rx;have e':(∃xs,SqL X.K H p xs/\n=xs.length)∨∃xs,SqT X.K H p xs/\n=xs.length:=e
  rcases e' with⟨xs,hx,e'⟩|⟨xs,hx,e'⟩
  ·subst e'
   obtain⟨its,r',pl,hz⟩:=I.list hx;have hlen:=r'.length;exact Calls.call_len_list pl.isList (by simp only[size_toArray];omega) ⟨.int xs.length,H,I.tok _,⟨_,by simp only[size_toArray];rw[hlen]⟩,q⟩
  ·subst e'
   obtain⟨its,r',pl,hz⟩:=I.tuple hx;have hlen:=r'.length;exact len_tuple pl (by simp only[size_toArray];omega) ⟨.int xs.length,H,I.tok _,⟨_,by simp only[size_toArray];rw[hlen]⟩,q⟩
 |_=>exact(show False from e).elim
end
end L2
namespace L2
open PySem PySem.Spec PyProof.Rows
structure ObjM(h:Heap)(x dx C:Addr)(mA:Str->Option Value):Prop where
 obj:h.get? x=some (instObj C dx)
 ns:h.Ns1 dx mA
 ne:dx≠x
theorem BO{h:Heap}{dx:Addr}{mA:Str->Option Value}(n:h.Ns1 dx mA):∃od,h.get? dx=some od/\∀name,lookIn name od=some (mA name):=by
 obtain⟨o,es,ep,ho,hd,hk,_,hm⟩:=n;refine⟨o,ho,λname=>?_⟩;have e:=hm name;unfold nsFind findBy at e;rw[←Array.find?_toList]at e;unfold lookIn;rw[hd];dsimp only;split
 ·rename_i y q
  rw[q]at e;exact congrArg some e
 ·rename_i q
  rw[q]at e;have a:es.toList.any (·.refKey)=false:=by
   rw[List.any_eq_false];intro y hy;obtain⟨z,t,hkey⟩:=hk y (Array.mem_toList_iff.mp hy);simp[DictEntry.refKey,hkey]
  have a':¬es.toList.any (·.refKey)=true:=by rw[a];exact Bool.false_ne_true
  rw[if_neg a'];exact congrArg some e
theorem ObjM.look{h:Heap}{x dx C:Addr}{mA:Str->Option Value}(I:ObjM h x dx C mA):∃od,PySem.W.InstAt h x (instObj C dx) C (some od)/\∀name,lookIn name od=some (mA name):=
 let⟨od,ho,hl⟩:=BO I.ns
 ⟨od,⟨I.obj,rfl,rfl,ho⟩,hl⟩
section
variable{prog:Program}{w:World}{A:Around}{E:Value->Shared->Prop}{s:Shared}{K:Frag}{x dx C f:Addr}{mA:Str->Option Value}{name:Str}{v:Value}
theorem BP{expr:Bool}{Q:Value->Shared->Prop}(X:K.In s.heap)(I:ObjM s.heap x dx C mA)(hg:plainGet K C name=true)(hh:hasDictIn K C=true)
  (ha:findIn K (.ref C) name=some none) (hv:mA name=some v) (hv':handedIn v=true) (h:Q v {s with toks:=s.toks+1}):
  wpAny (model prog w) A (getAttr (.ref x) name expr) Q E s:=by
 obtain⟨od,J,hl⟩:=I.look;exact PySem.W.get_value X J (plainGet_of hg).1 (PySem.W.findObj_own hh ha rfl (by rw[hl,hv])) hv' h
theorem BQ{pl:Sem Bool}{Q:Value×List Value->Shared->Prop}(X:K.In s.heap)(I:ObjM s.heap x dx C mA)(hg:plainGet K C name=true)
  (hf:findIn K (.ref C) name=some (some (.ref f))) (ht:isFn K (.ref f)=true) (hv:mA name=none) (h:Q (.ref f,[.ref x]) s):
  wpAny (model prog w) A (getMethod (.ref x) name pl) Q E s:=by
 obtain⟨od,J,hl⟩:=I.look;exact PySem.W.method_fn X J (plainGet_of hg).1 (plainGet_of hg).2 hf (beq_iff_eq.mp ht) (by show(lookIn name od).map (·.isSome)=some false;rw[hl,hv];rfl) h
theorem BR{ns:List Str}{Q:Unit->Shared->Prop}(X:K.In s.heap)(I:ObjM s.heap x dx C mA)
  (hs:findIn K (.ref C) "__setattr__"=some (some (.builtin "object.__setattr__"))) (hp:plainOver K C=true) (ht:takerIn K C name=some none) (hh:hasDictIn K C=true)
  (hw:PySem.Within mA ns) (hsz:ns.length<=sizeLine)
  (h:∀h',ObjM h' x dx C (λy=>if y=name then some v else mA y)->Heap.SameBut dx s.heap h'->Q () {s with heap:=h',toks:=s.toks+2}):
  wpAny (model prog w) A (setAttr (.ref x) name v) Q E s:=by
 obtain⟨od,J,hl⟩:=I.look;refine PySem.W.set_plain X J hs (PySem.W.osa_open (s:={s with toks:=s.toks+1}) (r:=none) X J hp ht λb=>?_);obtain⟨cd,hc,hd'⟩:=PySem.W.any_some hh;have hx:s.heap.get? x=some ⟨.ref C,some dx,.plain,#[]⟩:=I.obj;refine wpAny_bind (wpAny_pure (wpAny_bind (wpAny_bind (wpAny_loadPart hx (wpAny_bind (PySem.W.Looks.here (s:={s with toks:=s.toks+1}) (PySem.W.looks_clsIn X hc) ?_))))));rw[hd'];refine wpAny_pure (a:=some dx) (wpAny_bind (wpAny_pure (wpAny_bind ?_)));refine wpAny_nsSet1 (s:={s with toks:=s.toks+1}) I.ns λh' hn2 hs2=>?_
 obtain⟨oD,esD,epD,hoD,hdD,hcD⟩:=hn2.count (PySem.Within.cons name v hw);refine wpAny_bind (wpAny_lookBehind hoD (by rw[hdD];exact pastItsLine_dict (le_trans hcD (by rw[length_cons];omega))) ?_);exact wpAny_pure (h _ ⟨(hs2.2 _ (Ne.symm I.ne)).trans I.obj,hn2,I.ne⟩ hs2)
theorem BS{R:Result->Shared->Prop}{vs:List Value}{kw:List (Str×Value)}(X:K.In s.heap)(hm:makesIn K C=true)
  (hi:findIn K (.ref C) "__init__"=some (some (.ref f))) (hf:PySem.W.typeIn K (.ref f)=some (.type "function"))
  (h:codeAny (model prog w) (A.under (.builtin "type.__call__" ⟨.ref C::vs,kw⟩)) (.call (.ref f) ⟨.ref (s.heap.objs.size+1)::vs,kw⟩) (PySem.W.InitBack (s.heap.objs.size+1) R)
   {s with heap:=(s.heap.push emptyDict).push (instObj C s.heap.objs.size)}):
  codeAny (model prog w) A (.call (.ref C) ⟨vs,kw⟩) R s:=by
 obtain⟨hh,g,d,t,os⟩:=s;exact PySem.W.make_core (PySem.W.makes_of X hm) (PySem.W.looks_findIn X hi) (λself=>PySem.W.bind_fn X self hf) (.inl rfl) h
end
def J8(f:Str)(v:V):List (Str×V)->List (Str×V)
 |[]=>[(f,v)]
 |(g,x)::r=>if g=f then(g,v)::r else(g,x)::J8 f v r
theorem qR(f g:Str)(v:V):∀fs:List (Str×V),(J8 f v fs).lookup g=if g=f then some v else fs.lookup g
 |[]=>by
  show List.lookup g [(f,v)]=_;by_cases h:g=f
  ·have hb:(g==f)=true:=beq_iff_eq.mpr h
   simp only[List.lookup,hb,if_pos h]
  ·have hb:(g==f)=false:=beq_eq_false_iff_ne.mpr h
   simp only[List.lookup,hb,if_neg h]
 |(k,x)::r=>by
  have ih:=qR f g v r;rw[show J8 f v ((k,x)::r)=(if k=f then(k,v)::r else(k,x)::J8 f v r)from rfl];by_cases hk:k=f
  ·rw[if_pos hk]
   by_cases h:g=k
   ·have hb:(g==k)=true:=beq_iff_eq.mpr h
    simp only[List.lookup,hb,if_pos (h.trans hk)]
   ·have hb:(g==k)=false:=beq_eq_false_iff_ne.mpr h
    simp only[List.lookup,hb,if_neg (λe:g=f=>h (e.trans hk.symm))]
  ·rw[if_neg hk]
   by_cases h:g=k
   ·have hb:(g==k)=true:=beq_iff_eq.mpr h
    simp only[List.lookup,hb,if_neg (λe:g=f=>hk (h.symm.trans e))]
   ·have hb:(g==k)=false:=beq_eq_false_iff_ne.mpr h
    simp only[List.lookup,hb];exact ih
theorem iW(f:Str)(v:V):∀fs:List (Str×V),f∈(J8 f v fs).map (·.1)/\∀g,g∈fs.map (·.1)->g∈(J8 f v fs).map (·.1)
 |[]=>⟨by simp[J8],λg h=>by simp at h⟩
 |(k,x)::r=>by
  obtain⟨i1,i2⟩:=iW f v r;rw[show J8 f v ((k,x)::r)=(if k=f then(k,v)::r else(k,x)::J8 f v r)from rfl];by_cases hk:k=f
  ·rw[if_pos hk]
   subst hk;exact⟨!2,λg h=>by simpa using h⟩
  ·rw[if_neg hk]
   refine⟨?_,λg h=>?_⟩
   ·rw[map_cons]
    exact mem_cons_of_mem _ i1
   ·rw[map_cons]at h ⊢
    rcases mem_cons.mp h with e|e
    ·exact mem_cons.mpr (.inl e)
    ·exact mem_cons_of_mem _ (i2 g e)
theorem qS(f:Str)(v:V):∀fs:List (Str×V),(J8 f v fs).length<=fs.length+1
 |[]=>by simp[J8]
 |(k,x)::r=>by
  have ih:=qS f v r;rw[show J8 f v ((k,x)::r)=(if k=f then(k,v)::r else(k,x)::J8 f v r)from rfl];by_cases hk:k=f
  ·rw[if_pos hk,length_cons,length_cons];omega
  ·rw[if_neg hk,length_cons,length_cons];omega
theorem RelO.some_of{v:V}{o:Option Value}(r:RelO (some v) o):∃u,o=some u/\RelV v u:=by
 cases o with
 |none=>exact(show False from r).elim
 |some u=>exact⟨u,rfl,r⟩
theorem RelO.none_of{o:Option Value}(r:RelO none o):o=none:=by
 cases o with
 |none=>rfl
 |some u=>exact(show False from r).elim
theorem BT{v:V}{u:Value}(r:RelV v u):handedIn u=true:=by
 cases v with
 |non=>cases(show u=Value.none from r);rfl
 |bl b=>cases(show u=Value.bool b from r);rfl
 |int i=>obtain⟨t,e⟩:=(show ∃t,u=Value.int i t from r);cases e;rfl
 |str x=>obtain⟨t,e⟩:=(show ∃t,u=Value.str x t from r);cases e;rfl
 |byt b=>obtain⟨t,e⟩:=(show ∃t,u=Value.bytes b t from r);cases e;rfl
 |flt b=>obtain⟨t,e⟩:=(show ∃t,u=Value.float b t from r);cases e;rfl
 |ref a=>cases(show u=Value.ref a from r);rfl
 |ty n=>cases(show u=Value.type n from r);rfl
section
variable{P:Program}{w:World}{H H':Hp}{h h':Heap}{a C dx:Addr}{fs fs':List (Str×V)}
theorem cF(hok:HOk P w H h)(e:H a=some (.ins C dx fs)):∃mA,ObjM h a dx C mA/\(∀f,RelO (fs.lookup f) (mA f))/\PySem.Within mA (fs.map (·.1))/\fs.length<=1000/\H dx=some (.own a):=by
 obtain⟨d,z,ne,ob,mA,n,r,q⟩:=(show ObjOk P w H h a (.ins C dx fs)from hok a _ e);exact⟨mA,⟨ob,n,ne⟩,r,q,z,d⟩
end
structure Cls(K:Frag)(C:Addr):Prop where
 pg:plainGet K C Str.empty=true
 hd:hasDictIn K C=true
 po:plainOver K C=true
 sa:findIn K (.ref C) "__setattr__"=some (some (.builtin "object.__setattr__"))
theorem Cls.get{K:Frag}{C:Addr}(c:Cls K C)(f:Str):plainGet K C f=true:=c.pg
def NoAttr(K:Frag)(C:Addr)(f:Str):Prop:=findIn K (.ref C) f=some none
theorem NoAttr.taker{K:Frag}{C:Addr}{f:Str}(n:NoAttr K C f):takerIn K C f=some none:=by
 unfold takerIn;rw[show findIn K (.ref C) f=some none from n];rfl
structure Meth(K:Frag)(C:Addr)(m:Str)(f:Addr):Prop where
 at_:findIn K (.ref C) m=some (some (.ref f))
 fn:isFn K (.ref f)=true
 kp:keepIn K (.ref f)=true
section
variable{X:Cx}{ζ:List (Addr×Obj)}{σ:St}{H:Hp}{s:Shared}{a C dx:Addr}{fs:List (Str×V)}{f:Str}{v:V}{A:Around}{E:Value->Shared->Prop}
theorem qT{b:Bool}{Q:Value->Shared->Prop}(I:Inv X ζ σ H s)(e:H a=some (.ins C dx fs))(c:Cls X.K C)(n:NoAttr X.K C f)(l:fs.lookup f=some v)
  (h:∀u s',Inv X ζ σ H s'->RelV v u->Q u s'):wpAny (model X.prog X.w) A (getAttr (.ref a) f b) Q E s:=by
 obtain⟨mA,O,r,_,_,_⟩:=cF I.hok e;obtain⟨u,hu,ru⟩:=RelO.some_of (v:=v) (o:=mA f) (by rw[←l];exact r f);exact BP I.kIn O (c.get f) c.hd n hu (BT ru) (h u _ (I.tok _) ru)
theorem qU{m:Str}{g:Addr}{pl:Sem Bool}{Q:Value×List Value->Shared->Prop}(I:Inv X ζ σ H s)(e:H a=some (.ins C dx fs))(c:Cls X.K C)(k:Meth X.K C m g)(l:fs.lookup m=none)
  (h:Q (.ref g,[.ref a]) s):wpAny (model X.prog X.w) A (getMethod (.ref a) m pl) Q E s:=by
 obtain⟨mA,O,r,_,_,_⟩:=cF I.hok e;have hn:mA m=none:=RelO.none_of (by rw[←l];exact r m);exact BQ I.kIn O (c.get m) k.at_ k.fn hn h
theorem qV{y:V}{u:Value}{Q:Unit->Shared->Prop}(I:Inv X ζ σ H s)(e:H a=some (.ins C dx fs))(c:Cls X.K C)(n:NoAttr X.K C f)(hl:fs.length<1000)(ry:RelV y u)
  (h:∀s',Inv X ζ σ (upd H a (.ins C dx (J8 f y fs))) s'->Q () s'):wpAny (model X.prog X.w) A (setAttr (.ref a) f u) Q E s:=by
 obtain⟨mA,O,r,wi,_,ho⟩:=cF I.hok e;have hz:(fs.map (·.1)).length<=sizeLine:=by rw[length_map,sizeLine_eq];omega
 refine BR I.kIn O c.sa c.po n.taker c.hd wi hz λh' O' sb=>h _ ?_
 have hd:∃o,h'.get? dx=some o:=let⟨o,_,_,e',_⟩:=O'.ns;⟨o,e'⟩
 refine I.write (x:=a) (e:=dx) (by rw[e];exact True.intro) (.inr ho) (λb q hb z=>(sb.2 b hb).trans z) hd ?_;refine⟨by rw[A9 O.ne];exact ho,?_,O.ne,O'.obj,_,O'.ns,λg=>?_,λg hg=>?_⟩
 ·have:=qS f y fs;omega
 ·show RelO ((J8 f y fs).lookup g) (if g=f then some u else mA g)
  rw[qR];by_cases q:g=f
  ·rw[if_pos q,if_pos q];exact ry
  ·rw[if_neg q,if_neg q];exact r g
 ·by_cases q:g=f
  ·rw[q];exact(iW f y fs).1
  ·refine(iW f y fs).2 g (wi g λz=>hg ?_)
   show(if g=f then some u else mA g)=none;rw[if_neg q];exact z
theorem Inv.made(I:Inv X ζ σ H s):Inv X ζ σ (upd (upd H s.heap.objs.size (.own (s.heap.objs.size+1))) (s.heap.objs.size+1) (.ins C s.heap.objs.size []))
  {s with heap:=(s.heap.push emptyDict).push (instObj C s.heap.objs.size)}:=by
 have e1:(s.heap.push emptyDict).get? s.heap.objs.size=some emptyDict:=Heap.get?_push_size s.heap rfl;have e2:((s.heap.push emptyDict).push (instObj C s.heap.objs.size)).get? (s.heap.objs.size+1)=some (instObj C s.heap.objs.size):=by
  have:=Heap.get?_push_size (s.heap.push emptyDict) (o:=instObj C s.heap.objs.size) rfl
  rwa [Heap.size_push]at this
 have e3:(s.heap.push emptyDict).Ns s.heap.objs.size (λ_=>none):=⟨emptyDict,#[],_,e1,rfl,(λe he=>absurd he (!2)),λ_=>rfl⟩;have I1:=I.laid (a:=s.heap.objs.size) (o:=.own (s.heap.objs.size+1)) (h':=s.heap.push emptyDict) (t':=s.toks) (λb u q=>Heap.get?_push_of_some _ q) (le_refl _) ⟨_,e1⟩;refine I1.laid (a:=s.heap.objs.size+1) (o:=.ins C s.heap.objs.size []) (t':=s.toks) (λb u q=>Heap.get?_push_of_some _ q) (le_of_eq (Heap.size_push _ _)) ?_;have ne:s.heap.objs.size≠s.heap.objs.size+1:=ne_of_lt (lt_succ_self _);refine⟨by rw[A9 ne,A6],zero_le _,ne,e2,λ_=>none,(Heap.Ns1.of_empty e3).at λo q=>Heap.get?_push_of_some _ q,λ_=>True.intro,λy hy=>absurd rfl hy⟩
theorem BU{prog:Program}{w:World}{env:Env}{e:Expr}{f:Str}{pos:Pos}{s:Shared}{Q:Value->Shared->Prop}(hb:attributeBase e f env (eval e env)=eval e env)
  (h:wpAny (model prog w) A (eval e env) (λo s₁=>wpAny (model prog w) A (getAttr o f true) Q E s₁) E s):wpAny (model prog w) A (eval (.Attribute e f pos) env) Q E s:=
 Attribute_any_ h (by rw[arm_eval_Attribute,hb])
end
def qW(K:Frag)(ta:TE)(f:Str):TE:=fun σ H Q=>ta σ H λx H1=>∃a C dx fs v,x=.ref a/\H1 a=some (.ins C dx fs)/\Cls K C/\NoAttr K C f/\fs.lookup f=some v/\Q v H1
def qX(K:Frag)(ta tv:TE)(f:Str):TS:=λD σ H=>tv σ H λy H1=>ta σ H1 λx H2=>∃a C dx fs,x=.ref a/\H2 a=some (.ins C dx fs)/\Cls K C/\NoAttr K C f/\fs.length<1000/\
 D.nx σ (upd H2 a (.ins C dx (J8 f y fs)))
def iX(X:Cx)(op:Operator)(rd:V->V->Hp->VK->Prop):Prop:=
 ∀(ζ:List (Addr×Obj))(s:Shared)(σ:St)(H:Hp)(x y:V)(u v:Value)(Q:VK),Inv X ζ σ H s->RelV x u->RelV y v->rd x y H Q->wpAny (model X.prog X.w) X.A (inplaceOp op u v) (EP X ζ σ Q) X.xe s
def qY(K:Frag)(ta tv:TE)(rd:V->V->Hp->VK->Prop)(f:Str):TS:=λD σ H=>ta σ H λx H1=>∃a C dx fs v,x=.ref a/\H1 a=some (.ins C dx fs)/\Cls K C/\NoAttr K C f/\fs.lookup f=some v/\
 tv σ H1 λy H2=>rd v y H2 λz H3=>∃dx' fs',H3 a=some (.ins C dx' fs')/\fs'.length<1000/\D.nx σ (upd H3 a (.ins C dx' (J8 f z fs')))
section
variable{X:Cx}{o e value:Expr}{f:Str}{pos pos' tpos:Pos}{ta tv:TE}
theorem BV(he:PE X e ta)(hb:attributeBase e f X.env (eval e X.env)=eval e X.env):PE X (.Attribute e f pos) (qW X.K ta f):=by
 intro ζ s σ H Q I h;refine BU hb (A7 (he ζ s σ H _ I h) λu s1 h9=>?_);obtain⟨x,H1,I1,rx,a,C,dx,fs,v,ex,ea,c,n,l,q⟩:=h9;subst ex;obtain rfl:u=Value.ref a:=rx;exact qT I1 ea c n l λu' s2 I2 ru=>⟨v,H1,I2,ru,q⟩
theorem BW(ha:PE X o ta)(hv:PE X value tv)(hs:swapsWith value (some (.Attribute o f pos')) pos.line X.env=pure false):PS X (.Assign [.Attribute o f pos'] value pos) (qX X.K ta tv f):=by
 intro ζ s σ H D I h;refine plainObj_wpAny_Assign_Attribute (A7 (hv ζ s σ H _ I h) λu s1 ⟨y,H1,I1,ry,q⟩=>A7 (ha ζ s1 σ H1 _ I1 q) λov s2 h9=>?_) hs;obtain⟨x,H2,I2,rx,a,C,dx,fs,ex,ea,c,n,l,q2⟩:=h9;subst ex;obtain rfl:ov=Value.ref a:=rx;exact qV I2 ea c n l ry λs3 I3=>⟨σ,_,I3,q2⟩
theorem BX{op:Operator}{rd:V->V->Hp->VK->Prop}(ha:PE X o ta)(hv:PE X value tv)(hop:iX X op rd):PS X (.AugAssign (.Attribute o f tpos) op value pos) (qY X.K ta tv rd f):=by
 intro ζ s σ H D I h;refine wpAny_AugAssign_AttributeAny (A7 (ha ζ s σ H _ I h) λov s1 h9=>?_);obtain⟨x,H1,I1,rx,a,C,dx,fs,v,ex,ea,c,n,l,q⟩:=h9;subst ex;obtain rfl:ov=Value.ref a:=rx;refine qT I1 ea c n l λu s2 I2 ru=>A7 (hv ζ s2 σ H1 _ I2 q) λw3 s3 ⟨y,H2,I3,ry,q3⟩=>A7 (hop ζ s3 σ H2 v y u w3 _ I3 ru ry q3) λw4 s4 ⟨z,H3,I4,rz,dx',fs',ea',l',q4⟩=>?_
 exact qV I4 ea' c n l' rz λs5 I5=>⟨σ,_,I5,q4⟩
def BY:V->V->Hp->VK->Prop:=λx y H Q=>∃i j,x=.int i/\y=.int j/\Q (.int (i+j)) H
theorem qZ:iX X .Add BY:=by
 rintro ζ s σ H x y u v Q I rx ry ⟨i,j,rfl,rfl,q⟩;obtain⟨t,rfl⟩:=(show ∃t,u=Value.int i t from rx);obtain⟨t',rfl⟩:=(show ∃t',v=Value.int j t' from ry);exact PyProof.Rows.iadd_int ⟨.int (i+j),H,I.tok _,⟨_,rfl⟩,q⟩
end
section
variable{X:Cx}{ζ:List (Addr×Obj)}{σ:St}{H:Hp}{s:Shared}{A:Around}{E:Value->Shared->Prop}{Q:Value->Shared->Prop}{c:Value}{b:Bool}
inductive TyOf(K:Frag)(H:Hp):V->Value->Prop where
 |non:TyOf K H .non (.type "NoneType")
 |bl (x:Bool):TyOf K H (.bl x) (.type "bool")
 |int (i:Int):TyOf K H (.int i) (.type "int")
 |str (x:Str):TyOf K H (.str x) (.type "str")
 |flt (x:UInt64):TyOf K H (.flt x) (.type "float")
 |lst {a:Addr} {xs:List V} (e:H a=some (.lst xs)):TyOf K H (.ref a) (.type "list")
 |frz {a:Addr} {o:Obj} {xs:List V} (e:H a=some (.frz o (.lst xs))):TyOf K H (.ref a) (.type "list")
 |tup {a:Addr} {xs:List V} (e:H a=some (.tup xs)):TyOf K H (.ref a) (.type "tuple")
 |dK {a:Addr} {kvs:List (A4×V)} (e:H a=some (.dK kvs)):TyOf K H (.ref a) (.type "dict")
 |dT {a:Addr} {kvs:List (List A4×V)} (e:H a=some (.dT kvs)):TyOf K H (.ref a) (.type "dict")
 |ins {a C dx:Addr} {fs:List (Str×V)} (e:H a=some (.ins C dx fs)) (cl:Cls K C) (ha:findIn K (.ref C) "__class__"=some (some (.builtin "object.__class__")))
   (hn:PySem.W.specialIn K (.builtin "object.__class__") "__get__"=some (some (.builtin "getset_descriptor.__get__"))) (htk:PySem.W.takesIn K (.builtin "object.__class__")=some true)
   (hm:PySem.W.mroIn K C (.type "object")=some true):TyOf K H (.ref a) (.ref C)
theorem BZ{x:V}{u t:Value}(I:Inv X ζ σ H s)(rx:RelV x u)(ty:TyOf X.K H x t)(e:kitOne X.K t c=some b)(h:∀tk,Q (.bool b) {s with toks:=tk}):
  wpAny (model X.prog X.w) A (call (.builtin "isinstance") [u,c]) Q E s:=by
 cases ty with
 |non=>cases(show u=Value.none from rx);exact kia_one kitx_none I.kIn True.intro e (λz=>nomatch z) h
 |bl y=>cases(show u=Value.bool y from rx);exact kia_one kitx_bool I.kIn True.intro e (λz=>nomatch z) h
 |int i=>obtain⟨t,q⟩:=(show ∃t,u=Value.int i t from rx);cases q;exact kia_one kitx_int I.kIn True.intro e (λz=>nomatch z) h
 |str y=>obtain⟨t,q⟩:=(show ∃t,u=Value.str y t from rx);cases q;exact kia_one kitx_str I.kIn True.intro e (λz=>nomatch z) h
 |flt y=>obtain⟨t,q⟩:=(show ∃t,u=Value.float y t from rx);cases q;exact kia_one kitx_float I.kIn True.intro e (λz=>nomatch z) h
 |@lst a xs ea=>
  cases(show u=Value.ref a from rx);obtain⟨_,_,n,_,h1⟩:=(show ObjOk X.prog X.w H s.heap a (.lst xs)from I.hok a _ ea);exact kia_one kitx_list I.kIn ⟨_,h1,rfl⟩ e (λz=>nomatch z) h
 |@frz a ob xs ea=>
  cases(show u=Value.ref a from rx);obtain⟨_,_,_,n,_,h1⟩:=(show ObjOk X.prog X.w H s.heap a (.frz ob (.lst xs))from I.hok a _ ea);exact kia_one kitx_list I.kIn ⟨_,h1,rfl⟩ e (λz=>nomatch z) h
 |@tup a xs ea=>
  cases(show u=Value.ref a from rx);obtain⟨_,_,_,p⟩:=(show ObjOk X.prog X.w H s.heap a (.tup xs)from I.hok a _ ea);obtain⟨o,h1,h2,_⟩:=p;exact kia_one kitx_tuple I.kIn ⟨o,h1,h2⟩ e (λz=>nomatch z) h
 |@dK a kvs ea=>
  cases(show u=Value.ref a from rx);obtain⟨_,_,vs,_,p⟩:=(show ObjOk X.prog X.w H s.heap a (.dK kvs)from I.hok a _ ea);obtain⟨o,es,ep,h1,h2,_⟩:=p;exact kia_one kitx_dict I.kIn ⟨o,h1,h2.1⟩ e (λz=>nomatch z) h
 |@dT a kvs ea=>
  cases(show u=Value.ref a from rx);obtain⟨_,_,xs,_,o,es,ep,h1,h2,_⟩:=(show ObjOk X.prog X.w H s.heap a (.dT kvs)from I.hok a _ ea);exact kia_one kitx_dict I.kIn ⟨o,h1,h2.1⟩ e (λz=>nomatch z) h
 |@ins a C dx fs ea cl ha hn htk hm=>
  cases(show u=Value.ref a from rx);obtain⟨mA,O,_⟩:=cF I.hok ea;obtain⟨od,J,_⟩:=O.look;exact kia_one (kitx_own (cl.get _) cl.hd ha hn htk hm) I.kIn J e (λz=>nomatch z) h
end
end L2
namespace L2
open PySem PySem.Spec PyProof.Rows
structure Room(k:Nat)(A:Around):Prop where
 hd:A.handled=none
 dp:A.depth+3*k+5<recursionLimit
 un:A.units+16*k+200<cLine
theorem Room.mono{j k:Nat}{A:Around}(r:Room k A)(h:j<=k):Room j A:=⟨r.hd,by have:=r.dp;omega,by have:=r.un;omega⟩
theorem Room.deeper{k:Nat}{A:Around}(r:Room (k+1) A)(env:Env):Room k (A.deeper env):=
 ⟨r.hd,by have:=r.dp;show A.depth+1+3*k+5<_;omega,by have:=r.un;show A.units+3+16*k+200<_;omega⟩
theorem Room.in1{k:Nat}{A:Around}(r:Room (k+1) A):Room k A.in1:=
 ⟨r.hd,by have:=r.dp;show A.depth+3*k+5<_;omega,by have:=r.un;show A.units+1+16*k+200<_;omega⟩
theorem Ca{A:Around}{C:Addr}{us:List Value}{kw:List (Str×Value)}:(A.under (.builtin "type.__call__" ⟨.ref C::us,kw⟩)).depth=A.depth+1:=by
 first|rfl|simp[Around.under,Code.weight,Code.isCreation,Code.isGuard,Code.isCaller,Code.frames,Code.isFrame,guardIds]
theorem Cb{A:Around}{C:Addr}{us:List Value}{kw:List (Str×Value)}:(A.under (.builtin "type.__call__" ⟨.ref C::us,kw⟩)).units=A.units+1:=by
 first|rfl|simp[Around.under,Code.cUnits,Code.frames,Code.isFrame]
theorem Room.make{k:Nat}{A:Around}(r:Room (k+1) A)(C:Addr)(us:List Value)(kw:List (Str×Value)):Room k (A.under (.builtin "type.__call__" ⟨.ref C::us,kw⟩)):=
 ⟨r.hd,by have:=r.dp;rw[Ca];omega,by have:=r.un;rw[Cb];omega⟩
theorem Room.depth{k:Nat}{A:Around}(r:Room k A):A.depth<recursionLimit:=by have:=r.dp;omega
theorem Room.units{k:Nat}{A:Around}(r:Room k A):A.units+64<cLine:=by have:=r.un;omega
def Y5:TA:=λ_ H Q=>Q [] H
def aK(ta:TE)(tr:TA):TA:=fun σ H Q=>ta σ H λx H1=>tr σ H1 λxs H2=>Q (x::xs) H2
section
variable{X:Cx}{e:Expr}{es:List Expr}{te:TE}{t:TA}{pos:Pos}
theorem O8:PA X [] Y5:=λ_ _ _ _ H Q I h=>Calls.spliced_nil ⟨[],H,I,.nil,h⟩
theorem K4(ha:PE X e te)(hr:PA X es t)(hs:starEach (e::es) X.env=(false,eval e X.env)::starEach es X.env:=by rfl):PA X (e::es) (aK te t):=by
 intro pos ζ s σ H Q I h;rw[hs];show wpAny _ _ (spliced ((false,eval e X.env)::backTo pos (starEach es X.env))) _ _ s;refine Calls.spliced_cons (A7 (ha ζ s σ H _ I h) λu s1 h9=>?_);obtain⟨x,H1,I1,r1,q1⟩:=h9;exact A7 (hr pos ζ s1 σ H1 _ I1 q1) λus s2 ⟨xs,H2,I2,r2,q2⟩=>⟨x::xs,H2,I2,.cons r1 r2,q2⟩
def rA(t:TA):TE:=fun σ H Q=>t σ H λxs H1=>xs.length<=sizeLine/\∀p,H1 p=none->Q (.ref p) (upd H1 p (.tup xs))
def eX(t:TA):TE:=fun σ H Q=>t σ H λxs H1=>xs.length<=sizeLine/\∀p,H1 p=none->Q (.ref p) (upd H1 p (.lst xs))
theorem cH{x1}(h:PA X es t):PE X (.Tuple es x1 pos) (rA t):=by
 intro ζ s σ H Q I hq;refine wpAny_Tuple_spliced (A7 (h pos ζ s σ H _ I hq) λus s1 ⟨xs,H1,I1,r,z,q⟩=>⟨by rw[←r.length];exact z,?_⟩);have hf:H1 s1.heap.objs.size=none:=I1.hok.fresh (le_refl _);refine⟨.ref s1.heap.objs.size,upd H1 s1.heap.objs.size (.tup xs),I1.laid (t':=s1.toks) (λb u e=>Heap.get?_push_of_some _ e) (le_refl _) ?_,rfl,q _ hf⟩;exact⟨z,us,r,⟨_,Heap.get?_push_size _ rfl,rfl,_,rfl⟩⟩
theorem rB(h:PA X es t):PE X (.List es pos) (eX t):=by
 intro ζ s σ H Q I hq;refine wpAny_List_spliced (A7 (h pos ζ s σ H _ I hq) λus s1 ⟨xs,H1,I1,r,z,q⟩=>⟨by rw[←r.length];exact z,?_⟩);have hf:H1 s1.heap.objs.size=none:=I1.hok.fresh (le_refl _);refine⟨.ref s1.heap.objs.size,upd H1 s1.heap.objs.size (.lst xs),I1.laid (t':=s1.toks) (λb u e=>Heap.get?_push_of_some _ e) (le_refl _) ?_,rfl,q _ hf⟩;exact⟨z,us,0,r,Heap.get?_push_size _ rfl⟩
end
abbrev Sp:=List V->Hp->VK->XK->Prop
abbrev O9:=List Env->Hp->Shared->XK->Value->Shared->Prop
structure Env0(P:Program)(w:World)(K:Frag)(mg:Str->Option Value)(base:Heap)(A:Around)(outer:List Env)(s:Shared)(H:Hp):Prop where
 frames:A.frames=some outer
 mod:Mod K mg base
 bs:∀b o,base.get? b=some o->s.heap.get? b=some o/\H b=none
 bsz:base.objs.size<=s.heap.objs.size
 funs:s.heap.FunFrames base outer
 frf:∀b∈N4 outer,H b=none
 hok:HOk P w H s.heap
 bare:AllBare s.gens
def CE(outer:List Env)(P:Program)(w:World)(H:Hp)(s:Shared)(Q:VK)(u:Value)(s':Shared):Prop:=
 ∃v H',s'.os=s.os/\AllBare s'.gens/\Un (N4 outer) [] H H' s.heap s'.heap/\HOk P w H' s'.heap/\RelV v u/\Q v H'
def CR(CX:O9)(outer:List Env)(P:Program)(w:World)(H:Hp)(s:Shared)(Q:VK)(E:XK)(r:Result)(s':Shared):Prop:=
 match r with
 |.ok (.ret u)=>CE outer P w H s Q u s'
 |.ok _=>False
 |.error e=>CX outer H s E e s'
structure FnOk(P:Program)(w:World)(K:Frag)(mg:Str->Option Value)(base:Heap)(CX:O9)(k:Nat)(f:Addr)(fd:FuncData)(ps:List Str)(sp:Sp):Prop where
 len:∀vs H Q E,sp vs H Q E->vs.length=ps.length
 run:∀(A:Around)(outer:List Env)(s:Shared)(H:Hp)(args:Args)(us:List Value)(vs:List V)(Q:VK)(E:XK),Room k A->Env0 P w K mg base A outer s H->BindsTo s fd args (ps.zip us)->Vals vs us->sp vs H Q E->
  codeAny (model P w) A (.call (.ref f) args) (CR CX outer P w H s Q E) s
theorem Env0.make{P:Program}{w:World}{K:Frag}{mg:Str->Option Value}{base:Heap}{A:Around}{outer:List Env}{s:Shared}{H:Hp}(e:Env0 P w K mg base A outer s H)(C:Addr)(us:List Value)(kw:List (Str×Value)):
  Env0 P w K mg base (A.under (.builtin "type.__call__" ⟨.ref C::us,kw⟩)) outer s H:=⟨by first|exact e.frames|(simpa [Around.under,Code.envs,Code.isFrame,pushEnvs]using e.frames),e.mod,e.bs,e.bsz,e.funs,e.frf,e.hok,e.bare⟩
section
variable{X:Cx}{ζ:List (Addr×Obj)}{σ:St}{H:Hp}{s s':Shared}
theorem Inv.env0(I:Inv X ζ σ H s):Env0 X.prog X.w X.K X.mg X.base X.A X.stack s H:=
 ⟨I.ok.frames,I.ok.mod,I.bs,le_trans I.ok.bsz I.sz,I.stack,I.stkFree,I.hok,I.bare⟩
theorem Inv.after{Q:VK}{u:Value}(I:Inv X ζ σ H s)(h:CE X.stack X.prog X.w H s Q u s'):EP X ζ σ Q u s':=by
 obtain⟨v,H',os,bare,un,hok,r,q⟩:=h;obtain⟨hh,g,d,t,os'⟩:=s';obtain rfl:os'=s.os:=os;exact⟨v,H',I.call (h':=hh) (g':=g) (d':=d) (t':=t) (ch:=[]) un hok bare (λb z=>absurd z (!2)),r,q⟩
end
def eY(sp:Sp)(dvs:List V)(E:XK)(t:TA):TE:=fun σ H Q=>t σ H λvs H1=>sp (vs++dvs) H1 Q E
def eZ(C:Addr)(m:Str)(sp:Sp)(dvs:List V)(E:XK)(ta:TE)(t:TA):TE:=fun σ H Q=>ta σ H λx H1=>∃a dx fs,x=.ref a/\H1 a=some (.ins C dx fs)/\fs.lookup m=none/\
 t σ H1 λvs H2=>sp (x::(vs++dvs)) H2 Q E
def rC(C:Addr)(sp:Sp)(dvs:List V)(E:XK)(t:TA):TE:=fun σ H Q=>t σ H λvs H1=>∀x dx,H1 x=none->H1 dx=none->dx≠x->
 sp (.ref x::(vs++dvs)) (upd (upd H1 dx (.own x)) x (.ins C dx [])) (λv H2=>v=.non/\Q (.ref x) H2) E
def Binds(K:Frag)(fd:FuncData)(ps:List Str)(ds:List Value):Prop:=
 ∀(s:Shared)(us:List Value),K.In s.heap->(us++ds).length=ps.length->BindsTo s fd ⟨us,[]⟩ (ps.zip (us++ds))
theorem Binds.all{K:Frag}{fd:FuncData}{ps:List Str}(h:∀us:List Value,us.length=ps.length->bindArgs fd ⟨us,[]⟩=pure (ps.zip us)):Binds K fd ps []:=λs us _ hl=>by
 rw[append_nil]at hl ⊢;exact .of_eq (h us hl)
def Y6(CX:O9)(X:Cx)(E:XK):Prop:=∀(ζ:List (Addr×Obj))(σ:St)(H:Hp)(s:Shared)(e:Value)(s':Shared),Inv X ζ σ H s->CX X.stack H s E e s'->X.xe e s'
section
variable{X:Cx}{CX:O9}{k:Nat}{f C:Addr}{fd:FuncData}{ps:List Str}{sp:Sp}{dvs:List V}{ds:List Value}{E:XK}{x m:Str}{p pos apos:Pos}{e o:Expr}{es:List Expr}{ta:TE}{t:TA}
theorem fA{ζ:List (Addr×Obj)}{σ:St}{H:Hp}{s:Shared}{Q:VK}{us:List Value}{vs:List V}(F:FnOk X.prog X.w X.K X.mg X.base CX k f fd ps sp)(hr:Room k X.A)(hb:Binds X.K fd ps ds)(hd:Vals dvs ds)(hx:Y6 CX X E)
  (I:Inv X ζ σ H s) (r:Vals vs us) (h:sp (vs++dvs) H Q E):wpAny (model X.prog X.w) X.A (call (.ref f) us) (EP X ζ σ Q) X.xe s:=by
 have r2:Vals (vs++dvs) (us++ds):=r.append hd;have hl:(us++ds).length=ps.length:=by rw[←r2.length];exact F.len _ _ _ _ h
 refine wpAny_call (codeAny_mono (F.run X.A X.stack s H ⟨us,[]⟩ (us++ds) (vs++dvs) Q E hr I.env0 (hb s us I.kIn hl) r2 h) λr s' hq=>?_);cases r with
 |error e=>exact hx ζ σ H s e s' I hq
 |ok fl=>
  cases fl with
  |ret u=>exact I.after hq
  |next=>exact False.elim hq
  |brk=>exact False.elim hq
  |cont=>exact False.elim hq
theorem iY(F:FnOk X.prog X.w X.K X.mg X.base CX k f fd ps sp)(hr:Room k X.A)(hg:Gl X x)(hm:X.mg x=some (.ref f))(hk:keepIn X.K (.ref f)=true)(hb:Binds X.K fd ps ds)(hd:Vals dvs ds)(hx:Y6 CX X E)
  (ha:PA X (e::es) t) (hdb:(x==("__debug__" : Str))=false:=by decide) (he:starEach (e::es) X.env=(false,eval e X.env)::starEach es X.env:=by rfl) (hpl:(backTo pos (starEach es X.env)).any (·.1)=false:=by rfl):
  PE X (.Call (.Name x p) (e::es) [] pos) (eY sp dvs E t):=by
 intro ζ s σ H Q I h;refine wpAny_Call_Name_kw (eK I hg hm ?_ hdb);refine callWith_K (h₀:=X.base) I.ok.mod.kin hk (A7 (ha pos ζ s σ H _ I h) λus s1 ⟨vs,H1,I1,r,q⟩=>⟨I1.kIn,?_⟩) he hpl;exact fA F hr hb hd hx I1 r q
structure Mk(K:Frag)(C f:Addr):Prop where
 makes:makesIn K C=true
 init:findIn K (.ref C) "__init__"=some (some (.ref f))
 fn:isFn K (.ref f)=true
 kp:keepIn K (.ref C)=true
theorem Cc{ζ:List (Addr×Obj)}{σ:St}{H:Hp}{s:Shared}{Q:VK}{us:List Value}{vs:List V}(M:Mk X.K C f)(F:FnOk X.prog X.w X.K X.mg X.base CX k f fd ps sp)(hr:Room (k+1) X.A)(hb:Binds X.K fd ps ds)(hd:Vals dvs ds)
  (hx:Y6 CX X E) (I:Inv X ζ σ H s) (r:Vals vs us)
  (h:∀x dx,H x=none->H dx=none->dx≠x->sp (.ref x::(vs++dvs)) (upd (upd H dx (.own x)) x (.ins C dx [])) (λv H2=>v=.non/\Q (.ref x) H2) E):
  wpAny (model X.prog X.w) X.A (call (.ref C) us) (EP X ζ σ Q) X.xe s:=by
 have hq:=h (s.heap.objs.size+1) s.heap.objs.size (I.hok.fresh (le_succ _)) (I.hok.fresh (le_refl _)) (ne_of_lt (lt_succ_self _));have I2:=Inv.made (C:=C) I;have r2:Vals (V.ref (s.heap.objs.size+1)::(vs++dvs)) (Value.ref (s.heap.objs.size+1)::(us++ds)):=.cons rfl (r.append hd);have hl:(Value.ref (s.heap.objs.size+1)::us++ds).length=ps.length:=by
  have e:=r2.length;rw[F.len _ _ _ _ hq]at e;exact e.symm
 refine wpAny_call (BS (f:=f) I.kIn M.makes M.init (beq_iff_eq.mp M.fn) (codeAny_mono (F.run _ X.stack _ _ ⟨Value.ref (s.heap.objs.size+1)::us,[]⟩ (Value.ref (s.heap.objs.size+1)::(us++ds)) _ _ E (hr.make C us [])
  (I2.env0.make C us []) (hb _ (Value.ref (s.heap.objs.size+1)::us) I2.kIn hl) r2 hq) λr s' hq'=>?_))
 cases r with
 |error e=>exact hx ζ σ _ _ e s' I2 hq'
 |ok fl=>
  cases fl with
  |ret u=>
   obtain⟨v,H',I3,rv,ev,q3⟩:=I2.after hq';subst ev;exact⟨rv,⟨V.ref (s.heap.objs.size+1),H',I3,rfl,q3⟩⟩
  |next=>exact False.elim hq'
  |brk=>exact False.elim hq'
  |cont=>exact False.elim hq'
theorem Cd(M:Mk X.K C f)(F:FnOk X.prog X.w X.K X.mg X.base CX k f fd ps sp)(hr:Room (k+1) X.A)(hg:Gl X x)(hm:X.mg x=some (.ref C))(hb:Binds X.K fd ps ds)(hd:Vals dvs ds)(hx:Y6 CX X E)
  (ha:PA X (e::es) t) (hdb:(x==("__debug__" : Str))=false:=by decide) (he:starEach (e::es) X.env=(false,eval e X.env)::starEach es X.env:=by rfl) (hpl:(backTo pos (starEach es X.env)).any (·.1)=false:=by rfl):
  PE X (.Call (.Name x p) (e::es) [] pos) (rC C sp dvs E t):=by
 intro ζ s σ H Q I h;refine wpAny_Call_Name_kw (eK I hg hm ?_ hdb);refine callWith_K (h₀:=X.base) I.ok.mod.kin M.kp (A7 (ha pos ζ s σ H _ I h) λus s1 ⟨vs,H1,I1,r,q⟩=>⟨I1.kIn,?_⟩) he hpl;exact Cc M F hr hb hd hx I1 r q
end
def PK(X:Cx)(kws:List Keyword)(t:TA):Prop:=
 ∀(pos:Pos)(ζ:List (Addr×Obj))(s:Shared)(σ:St)(H:Hp)(Q:List V->Hp->Prop),Inv X ζ σ H s->t σ H Q->wpAny (model X.prog X.w) X.A (evalAll ((backToKw pos (keywordEach kws X.env)).map (·.2))) (AP X ζ σ Q) X.xe s
section
variable{X:Cx}{CX:O9}{k:Nat}{f C:Addr}{fd:FuncData}{ps ks:List Str}{sp:Sp}{E:XK}{x m:Str}{p pos apos kpos:Pos}{e o:Expr}{es:List Expr}{kws:List Keyword}{te ta:TE}{t tk:TA}{nm:Option Str}
theorem rD:PK X [] Y5:=λ_ _ _ _ H Q I h=>wpAny_evalAll_nil ⟨[],H,I,.nil,h⟩
theorem rE(ha:PE X e te)(hr:PK X kws t):PK X (⟨nm,e,kpos⟩::kws) (aK te t):=by
 intro pos ζ s σ H Q I h;show wpAny _ _ (evalAll ((do let v ←eval e X.env;standAt pos;pure v)::(backToKw pos (keywordEach kws X.env)).map (·.2))) _ _ s;refine wpAny_evalAll_cons (wpAny_bind (A7 (ha ζ s σ H _ I h) λu s1 ⟨x,H1,I1,r1,q1⟩=>wpAny_bind (wpAny_standAt (wpAny_pure ?_))));exact A7 (hr pos ζ s1 σ H1 _ I1 q1) λus s2 ⟨xs,H2,I2,r2,q2⟩=>⟨x::xs,H2,I2,.cons r1 r2,q2⟩
variable{g:List Value->List Value->List Value}{gV:List V->List V->List V}
end
structure FnScope(N P:List Str)(sc:Scope):Prop where
 kind:sc.kind=.function
 co:sc.isCoroutine=false
 gen:sc.isGenerator=false
 nd:N.Nodup
 pre:N.take P.length=P
 par:∀x∈P,sc.names.lookup x=some .local∨sc.names.lookup x=some .cell
 nofree:∀y∈sc.names,y.2≠.free
theorem rF{kindOf:Str->Option NameKind}{x:Str}:∀{binds:List (Str×Value)}{m:Str->Option Value},(∀v,(x,v)∉binds)->bindL kindOf binds m x=m x
 |[],_,_=>rfl
 |(n,v)::r,m,h=>by
  unfold bindL;rw[rF λw hw=>h w (mem_cons_of_mem _ hw)];split
  ·have:x≠n:=by rintro rfl;exact h v mem_cons_self
   simp[this]
  ·rfl
theorem rG{kindOf:Str->Option NameKind}{x:Str}:∀{binds:List (Str×Value)}{m:Str->Option Value},(∀v,(x,v)∉binds)->bindC kindOf binds m x=m x
 |[],_,_=>rfl
 |(n,v)::r,m,h=>by
  unfold bindC;rw[rG λw hw=>h w (mem_cons_of_mem _ hw)];split
  ·rfl
  ·have:x≠n:=by rintro rfl;exact h v mem_cons_self
   simp[this]
theorem rH{kindOf:Str->Option NameKind}{x:Str}{v:Value}:∀{P:List Str}{vs:List Value}{i:Nat}{m:Str->Option Value},P.Nodup->P[i]?=some x->vs[i]?=some v->kindOf x=some .local->
  bindL kindOf (P.zip vs) m x=some v
 |[],_,_,_,_,h,_,_=>by simp at h
 |_::_,[],_,_,_,_,h,_=>by simp at h
 |p::P,w::vs,0,m,nd,h1,h2,hk=>by
  simp at h1 h2;subst h1;subst h2;show bindL kindOf ((p,w)::P.zip vs) m p=_;unfold bindL;rw[rF λv hv=>(nodup_cons.mp nd).1 (of_mem_zip hv).1,if_pos hk];simp
 |p::P,w::vs,i+1,m,nd,h1,h2,hk=>by
  show bindL kindOf ((p,w)::P.zip vs) m x=_;unfold bindL;exact rH (i:=i) (nodup_cons.mp nd).2 (by simpa using h1) (by simpa using h2) hk
theorem rJ{kindOf:Str->Option NameKind}{x:Str}{v:Value}:∀{P:List Str}{vs:List Value}{i:Nat}{m:Str->Option Value},P.Nodup->P[i]?=some x->vs[i]?=some v->kindOf x≠some .local->
  bindC kindOf (P.zip vs) m x=some v
 |[],_,_,_,_,h,_,_=>by simp at h
 |_::_,[],_,_,_,_,h,_=>by simp at h
 |p::P,w::vs,0,m,nd,h1,h2,hk=>by
  simp at h1 h2;subst h1;subst h2;show bindC kindOf ((p,w)::P.zip vs) m p=_;unfold bindC;rw[rG λv hv=>(nodup_cons.mp nd).1 (of_mem_zip hv).1,if_neg hk];simp
 |p::P,w::vs,i+1,m,nd,h1,h2,hk=>by
  show bindC kindOf ((p,w)::P.zip vs) m x=_;unfold bindC;exact rJ (i:=i) (nodup_cons.mp nd).2 (by simpa using h1) (by simpa using h2) hk
def start(N:List Str)(vs:List V):St:=vs.map some++replicate (N.length-vs.length) none
def J3(CX:O9)(P:Program)(w:World)(K:Frag)(mg:Str->Option Value)(base:Heap)(N:List Str)(qual:Str)(scope:Scope)(f:Addr)(cd:Value)(A:Around)(outer:List Env)(s:Shared)(H:Hp)(E:XK):Cx where
 prog:=P
 w:=w
 K:=K
 mg:=mg
 base:=base
 A:=A.deeper (envOfC qual scope s.heap.objs.size f cd)
 N:=N
 s₀:=s
 H₀:=H
 env:=envOfC qual scope s.heap.objs.size f cd
 outer:=outer
 stack:=envOfC qual scope s.heap.objs.size f cd::outer
 ex:=[]
 calm:=true
 fn:=λ_=>true
 pn:=[]
 xe:=λe s'=>wpAny (model P w) (A.deeper (envOfC qual scope s.heap.objs.size f cd)) (leaving (envOfC qual scope s.heap.objs.size f cd) e) (λ_ s''=>CX outer H s E e s'') (λe' s''=>CX outer H s E e' s'') s'
theorem rK{sc:Scope}{n:Nat}{x:Str}(h:sc.names.lookup x=some .cell):∃c,(cellsFrom n sc.names []).lookup x=some c:=by
 have q:=cellsFrom_some sc.names n [] (.inl h);exact isSome_iff_exists.mp q
theorem rL{CX:O9}{P:Program}{w:World}{K:Frag}{mg:Str->Option Value}{base:Heap}{N ps:List Str}{qual:Str}{scope:Scope}{f:Addr}{cd:Value}{A:Around}{outer:List Env}{s s1:Shared}{H:Hp}{E:XK}{us:List Value}{vs:List V}
  (S:FnScope N ps scope) (hd:A.handled=none) (e0:Env0 P w K mg base A outer s H) (hl:vs.length=ps.length) (r:Vals vs us)
  (x:InCallC s s.heap.objs.size (bindL (envOfC qual scope s.heap.objs.size f cd).kindOf (ps.zip us) λ_=>none) (cellsFrom (s.heap.objs.size+1) scope.names []) (bindC (envOfC qual scope s.heap.objs.size f cd).kindOf (ps.zip us) λ_=>none) s1):
  Inv (J3 CX P w K mg base N qual scope f cd A outer s H E) [] (start N vs) H s1:=by
 have hpl:ps.length<=N.length:=by have:=congrArg length S.pre;rw[length_take]at this;omega
 obtain⟨h1,tk,rfl,hk⟩:=x.done;have noA:∀b:Addr,b∉(J3 CX P w K mg base N qual scope f cd A outer s H E).ex:=λb z=>absurd (show b∈([]:List Addr)from z) (!2)
 refine⟨⟨e0.mod,S.kind,rfl,rfl,le_refl _,λy z c h1 h2=>?_,λy hy=>?_,λy c _ h=>?_,λ_=>hd,Around.frames_deeper e0.frames,.inr ⟨rfl,rfl⟩,λb z=>absurd z (noA b),e0.bs,e0.bsz,λb _ _=>noA b,λb z=>absurd z (noA b),e0.funs,e0.frf⟩,
  rfl,e0.bare,Un.kept hk,⟨_,x.toInCall.ns,λi y v h1 h2 h3=>?_⟩,λy c h=>⟨_,x.cell y c h⟩,e0.hok.fresh (le_refl _),λy c h=>?_,λp hp=>absurd (show p∈([]:List (Addr×Obj))from hp) (!2),e0.hok.kept hk,?_⟩
 ·exact name_of_addr x.apart (PySem.mem_of_lookup h1) (PySem.mem_of_lookup h2)
 ·have hy:scope.names.lookup y=some .cell∨scope.names.lookup y=some .free:=hy
  rcases hy with hy|hy
  ·exact rK hy
  ·exact absurd rfl (S.nofree _ (PySem.mem_of_lookup hy))
 ·exact le_of_lt (x.above y c (PySem.mem_of_lookup h))
 ·have hi:i<vs.length:=by
   unfold start at h2;by_cases hi:i<vs.length
   ·exact hi
   ·rw[getElem?_append_right (by simpa using hi)]at h2
    rw[List.getElem?_replicate]at h2;split at h2<;>cases h2
  have ha:vs[i]?=some v:=by
   unfold start at h2;rw[getElem?_append_left (by simpa using hi),getElem?_map]at h2;cases e:vs[i]? with
   |none=>rw[e]at h2;cases h2
   |some a=>rw[e]at h2;cases h2;rfl
  obtain⟨u,hu,rv⟩:=r.get ha;have hp:ps[i]?=some y:=by
   rw[←S.pre,List.getElem?_take_of_lt (!1)];exact h1
  have ndP:ps.Nodup:=by rw[←S.pre];exact S.nd.sublist (List.take_sublist _ _)
  refine⟨u,rv,?_⟩;rcases S.par y (mem_of_getElem? hp)with k|k
  ·exact .inl ⟨k,rH ndP hp hu k⟩
  ·obtain⟨c,e⟩:=rK (n:=s.heap.objs.size+1) k
   refine .inr ⟨.inl k,c,e,?_⟩;have q:=x.cell y c e;rw[rJ ndP hp hu (by show scope.names.lookup y≠_;rw[k];decide)]at q;exact q
 ·exact e0.hok.fresh (le_of_lt (x.above y c (PySem.mem_of_lookup h)))
 ·unfold start
  show _=N.length;rw[length_append,length_map,length_replicate];omega
theorem iZ{CX:O9}{P:Program}{w:World}{K:Frag}{mg:Str->Option Value}{base:Heap}{k:Nat}{f:Addr}{name qual:Str}{params:Arguments}{body:List Stmt}{scope:Scope}{dV kV doc pm cdv ct oc:Value}{an od:Option Addr}
  {osl:Array (Option Value)} {N ps:List Str} {sp:Sp} (lk:K.lookup f=some ⟨oc,od,.func (fnOf name qual params body scope dV kV doc pm an cdv ct),osl⟩) (hcd:codeIn K cdv qual=true) (S:FnScope N ps scope)
  (len:∀vs H Q E,sp vs H Q E->vs.length=ps.length)
  (hbody:∀(A:Around)(outer:List Env)(s:Shared)(H:Hp)(vs:List V)(Q:VK)(E:XK),Room k (A.deeper (envOfC qual scope s.heap.objs.size f cdv))->sp vs H Q E->
   ∃t,PSs (J3 CX P w K mg base N qual scope f cdv A outer s H E) body t/\t {nx:=λ_ H'=>Q .non H',rt:=Q} (start N vs) H):
  FnOk P w K mg base CX (k+1) f (fnOf name qual params body scope dV kV doc pm an cdv ct) ps sp:=by
 refine⟨len,λA outer s H args us vs Q E hr e0 hb r hsp=>?_⟩;have hl:=len _ _ _ _ hsp;have KX:K.In s.heap:=e0.mod.kin.keeps λb o e=>(e0.bs b o e).1
 have lim:s.heap.NoLimit:=e0.mod.nolimit.keeps λb o e=>(e0.bs b o e).1
 have hkind:∀y∈ps.zip us,scope.names.lookup y.1=some .local∨(scope.names.lookup y.1=some .cell/\((cellsFrom (s.heap.objs.size+1) scope.names []).lookup y.1).isSome=true):=λ⟨n,v⟩ hy=>by
  rcases S.par n (of_mem_zip hy).1 with q|q
  ·exact .inl q
  ·exact .inr ⟨q,cellsFrom_some _ _ _ (.inl q)⟩
 refine codeAny_call_function hr.depth (KX _ _ lk) rfl S.co S.gen rfl (PySem.W.codeRec_of KX hcd) (hb _ _ _ _ ?_);refine wpAny_newFunctionEnv_cells S.kind hkind λenv he s1 x=>?_
 subst he;refine⟨lim.keeps x.toInCall.keep,codeAny_func ?_⟩;obtain⟨t,ht,hq⟩:=hbody A outer s H vs Q E (hr.deeper _) hsp;have I:Inv (J3 CX P w K mg base N qual scope f cdv A outer s H E) [] (start N vs) H s1:=rL S hr.hd e0 hl r x;refine wpAny_mono (ht [] s1 (start N vs) H _ I hq) (λfl s' hs=>?_) λe s' hs=>hs
 have fin:∀{σ':St}{H':Hp}{v:V}{u:Value},Inv (J3 CX P w K mg base N qual scope f cdv A outer s H E) [] σ' H' s'->RelV v u->Q v H'->CE outer P w H s Q u s':=
  λ{σ' H' v u} J rv q=>⟨v,H',J.os,J.bare,J.base,J.hok,rv,q⟩
 cases fl with
 |ret u=>
  obtain⟨v,σ',H',J,rv,q⟩:=hs;exact fin J rv q
 |next=>
  obtain⟨σ',H',J,q⟩:=hs;exact fin (v:=V.non) (u:=Value.none) J rfl q
 |brk=>
  obtain⟨_,_,_,q⟩:=hs;exact False.elim q
 |cont=>
  obtain⟨_,_,_,q⟩:=hs;exact False.elim q
end L2
namespace L2
open PySem PySem.Spec PyProof.Rows
section
variable{X:Cx}{x:Str}{p pos:Pos}{e:Expr}{es:List Expr}{t:TA}{id T:String}{r:List V->Hp->VK->Prop}
def aM(r:List V->Hp->VK->Prop)(t:TA):TE:=fun σ H Q=>t σ H λvs H1=>r vs H1 Q
theorem aN(hc:CallR X (.builtin id) r)(hg:Gl X x)(hm:X.mg x=none)(hv:bootBuiltins x=some (.builtin id))(ha:PA X (e::es) t)(hn:x≠"__name__":=by decide)(hdb:(x==("__debug__" : Str))=false:=by decide)
  (he:starEach (e::es) X.env=(false,eval e X.env)::starEach es X.env:=by rfl) (hpl:(backTo pos (starEach es X.env)).any (·.1)=false:=by rfl):PE X (.Call (.Name x p) (e::es) [] pos) (aM r t):=by
 intro ζ s σ H Q I h;refine wpAny_Call_Name_kw (W1 I hg hm hv ?_ hn hdb);exact PyProof.Rows.callWith_builtin1 (A7 (ha pos ζ s σ H _ I h) λus s1 ⟨vs,H1,I1,r1,q1⟩=>hc ζ s1 σ H1 vs us Q I1 r1 q1) he hpl
theorem Ce(hc:CallR X (.type T) r)(hg:Gl X x)(hm:X.mg x=none)(hv:bootBuiltins x=some (.type T))(ha:PA X (e::es) t)(hn:x≠"__name__":=by decide)(hdb:(x==("__debug__" : Str))=false:=by decide)
  (he:starEach (e::es) X.env=(false,eval e X.env)::starEach es X.env:=by rfl) (hpl:(backTo pos (starEach es X.env)).any (·.1)=false:=by rfl):PE X (.Call (.Name x p) (e::es) [] pos) (aM r t):=by
 intro ζ s σ H Q I h;refine wpAny_Call_Name_kw (W1 I hg hm hv ?_ hn hdb);exact PyProof.Rows.callWith_type1 (A7 (ha pos ζ s σ H _ I h) λus s1 ⟨vs,H1,I1,r1,q1⟩=>hc ζ s1 σ H1 vs us Q I1 r1 q1) he hpl
end
end L2
namespace HT
open PySem PyProof.Rows
theorem Cf(A:Around)(s:Shared)(a:Int)(t:Tok)(c:Int)(u:Tok)(prog:Program)(w:World)(E:Value->Shared->Prop)(Q:Value->Shared->Prop)(h:Q (.bool (decide (a<c))) s):
  wpAny (model prog w) A (richCompare .Lt (.int a t) (.int c u)) Q E s:=
 (PyProof.Rows.lt_int h:wpAny (model prog w) A (compareOp .Lt (.int a t) (.int c u)) Q E s)
section
open PySem.SeqAt
open PySem.AutoSeq1 (wpAny_loadPart')
open PySem.MeetsSeq PySem.MeetsSeq2 PySem.MeetsSeq3
end
section
variable{prog:Program}{w:World}{A:Around}{E:Value->Shared->Prop}{s:Shared}
theorem Cg{t b:Addr}{vs ws:List Value}{Q:Value->Shared->Prop}(ht:IsTup s.heap t vs.toArray)(hb:IsTup s.heap b ws.toArray)(hv:vs≠[])
  (h1:ws=[]->Q (.ref t) s) (h2:ws≠[]->Q (.ref s.heap.objs.size) {s with heap:=s.heap.push {cls:=.type "tuple",data:=.seq (vs++ws).toArray} })
  (hsz:vs.length+ws.length<=sizeLine):wpAny (model prog w) A (binaryOp .Add (.ref t) (.ref b)) Q E s:=by
 obtain⟨⟨cls,dd,data,sl⟩,ho,hc,n,hd⟩:=id ht;obtain⟨⟨cls2,dd2,data2,sl2⟩,ho2,hc2,n2,hd2⟩:=id hb;simp only at hc hd hc2 hd2;subst hc hd hc2 hd2;have e:vs.toArray++ws.toArray=(vs++ws).toArray:=by simp
 by_cases hw:ws=[]
 ·exact concat_meets ⟨_,ho,rfl⟩ ⟨_,ho2,rfl⟩ noFill_tuple_add seq_tuple_add PySem.F.slot_tuple_add PySem.F.entry_tuple_add (PySem.F.args_tuple_add_2 _ _)
   (tuple_addW1 t b vs.toArray ws.toArray n n2 dd dd2 sl sl2 (by simpa using hv) (by simp[hw])) ⟨ho,ho2,h1 hw⟩
 ·refine concat_meets ⟨_,ho,rfl⟩ ⟨_,ho2,rfl⟩ noFill_tuple_add seq_tuple_add PySem.F.slot_tuple_add PySem.F.entry_tuple_add (PySem.F.args_tuple_add_2 _ _)
   (tuple_addW2 t b vs.toArray ws.toArray n n2 dd dd2 sl sl2 (by simpa using hv) (by simpa using hw) (by rw[size_toArray,size_toArray];exact hsz)) ⟨ho,ho2,?_⟩
  rw[e];exact h2 hw
def C0(n d:Nat):Option Int->Nat
 |none=>d
 |some v=>if v<0 then(v+(n:Int)).toNat else min v.toNat n
theorem Ch(n d:Nat)(hd:d<=n)(o:Option Int):C0 n d o<=n:=by
 cases o with
 |none=>exact hd
 |some v=>
  show(if v<0 then(v+(n:Int)).toNat else min v.toNat n)<=n;by_cases hv:v<0
  ·rw[if_pos hv];omega
  ·rw[if_neg hv];exact Nat.min_le_right _ _
theorem rM(v:Int)(n d:Nat):(if v<0 then max (v+(n:Int)) 0 else min v (n:Int))=((C0 n d (some v):Nat):Int):=by
 show(if v<0 then max (v+(n:Int)) 0 else min v (n:Int))=(((if v<0 then(v+(n:Int)).toNat else min v.toNat n):Nat):Int);by_cases hv:v<0
 ·simp only[if_pos hv];omega
 ·simp only[if_neg hv];omega
theorem Ci(lo hi:Option Int)(n:Nat):Builtin.Slice.sliceAdjust lo hi 1 (n:Int)=(((C0 n 0 lo:Nat):Int),((C0 n n hi:Nat):Int)):=by
 have h1:¬((1:Int)<0):=by omega
 unfold Builtin.Slice.sliceAdjust;simp only[h1,if_false];refine Prod.ext ?_ ?_
 ·cases lo with
  |none=>rfl
  |some v=>exact rM v n 0
 ·cases hi with
  |none=>rfl
  |some v=>exact rM v n n
theorem Cj(i j:Nat):Builtin.Slice.slicePlaces (i:Int) (j:Int) 1=j-i:=by
 unfold Builtin.Slice.slicePlaces;have h1:(1:Int)>0:=by omega
 simp only[h1,if_true,Int.ediv_one];split<;>omega
theorem rN{v:Value}{o:Option Int}{Q:Option Int->Shared->Prop}(p:IsPart v o)(h:Q o s):wpAny (model prog w) A (Builtin.Slice.slicePartIndex v) Q E s:=by
 cases p with
 |none=>exact slicePart_none h
 |int i t=>exact slicePart_int h
theorem Ck{sl:Addr}{vl vu:Value}{lo hi:Option Int}{n:Nat}{Q:Int×Int×Nat->Shared->Prop}(hs:s.heap.IsSliceOf sl vl vu .none)(pl:IsPart vl lo)(pu:IsPart vu hi)
  (h:Q (((C0 n 0 lo:Nat):Int),1,C0 n n hi-C0 n 0 lo) s):wpAny (model prog w) A (Builtin.Slice.sliceApplied (.ref sl) (pure (n:Int))) Q E s:=by
 obtain⟨os,hos,hcs,hds⟩:=id hs;unfold Builtin.Slice.sliceApplied Builtin.Slice.sliceFields;refine wpAny_bind (wpAny_bind (wpAny_field hos hds (x:=vl) rfl (wpAny_bind (wpAny_field hos hds (x:=vu) rfl (wpAny_bind (wpAny_field hos hds (x:=.none) rfl (wpAny_pure ?_)))))));refine wpAny_bind (slicePart_none ?_);show wpAny _ _ (if((1:Int)==0)=true then _ else _) _ _ s;rw[if_neg (!3)];refine wpAny_bind (rN pl (wpAny_bind (rN pu (wpAny_bind (wpAny_pure ?_)))));show wpAny _ _ (match Builtin.Slice.sliceAdjust lo hi 1 (n:Int)with|(lo,hi)=>pure (lo,(1:Int),Builtin.Slice.slicePlaces lo hi 1)) _ _ s;rw[Ci lo hi n];show wpAny _ _ (pure (((C0 n 0 lo:Nat):Int),(1:Int),Builtin.Slice.slicePlaces ((C0 n 0 lo:Nat):Int) ((C0 n n hi:Nat):Int) 1)) _ _ s;rw[Cj];exact wpAny_pure h
theorem Cl(xs:Array Value)(i k:Nat):((List.range k).filterMap λ(m:Nat)=>xs[((i:Int)+(m:Int)*1).toNat]?).toArray=((xs.toList.drop i).take k).toArray:=by
 have e:(λ(m:Nat)=>xs[((i:Int)+(m:Int)*1).toNat]?)=λm=>xs[i+m]?:=by
  funext m
  have:((i:Int)+(m:Int)*1).toNat=i+m:=by omega
  rw[this]
 rw[e];have:=pick_run xs i k;rw[List.filterMap_map]at this;have e2:((λx=>xs[x]?) ∘ λx=>i+x)=λm=>xs[i+m]?:=rfl
 rw[e2]at this;rw[this]
theorem Cm{t sl:Addr}{items:Array Value}{vl vu:Value}{lo hi:Option Int}{Q:Value->Shared->Prop}(ht:IsTup s.heap t items)(hs:s.heap.IsSliceOf sl vl vu .none)(pl:IsPart vl lo)(pu:IsPart vu hi)
  (hw:¬(C0 items.size 0 lo=0/\C0 items.size items.size hi=items.size))
  (h:Q (.ref s.heap.objs.size) {s with heap:=s.heap.push {cls:=.type "tuple",data:=.seq ((items.toList.drop (C0 items.size 0 lo)).take (C0 items.size items.size hi-C0 items.size 0 lo)).toArray} })
  (hsz:items.size<=sizeLine):wpAny (model prog w) A (getItem (.ref t) (.ref sl)) Q E s:=by
 have htake:sizeOk (.seq ((items.toList.drop (C0 items.size 0 lo)).take (C0 items.size items.size hi-C0 items.size 0 lo)).toArray):=by
  show((items.toList.drop (C0 items.size 0 lo)).take (C0 items.size items.size hi-C0 items.size 0 lo)).toArray.size<=sizeLine;rw[size_toArray,length_take,length_drop,Array.length_toList];omega
 have hj:C0 items.size items.size hi<=items.size:=Ch _ _ (le_refl _) hi;obtain⟨os,hos,hcs,hds⟩:=id hs;have hTs:s.TypeIs (.ref sl) "slice":=⟨os,hos,hcs⟩;unfold getItem
 try with_reducible refine wpAny_holding ?_
 first|refine wpAny_bind (wpAny_pure ?_)|skip
 refine wpAny_bind (wpAny_sequenceKey ht.typeIs (!3) ?_);refine wpAny_bind (wpAny_callSpecial?_slot (name:=Str.ofString "__getitem__") ht.typeIs PyProof.Rows.slot_tuple_getitem
  (wpAny_call_entry PyProof.Rows.slot_tuple_getitem ht.typeIs entry_tuple_getitem ?_ (args_tuple_getitem _ _)))
 show wpAny _ _ (Builtin.Tuple.tupleItemsOf (.ref t) >>= _) _ _ s;refine wpAny_bind (tupleItemsOf_ ht ?_);refine wpAny_bind (wpAny_typeOf hTs ?_);rw[if_pos (!3)];refine wpAny_bind (Ck hs pl pu ?_);have hno:¬((((C0 items.size 0 lo:Nat):Int)==0&&(1:Int)==1&&(C0 items.size items.size hi-C0 items.size 0 lo)==items.size)=true):=by
  intro q;rw[Bool.and_eq_true,Bool.and_eq_true]at q;have q1:((C0 items.size 0 lo:Nat):Int)=0:=eq_of_beq q.1.1;have q2:C0 items.size items.size hi-C0 items.size 0 lo=items.size:=eq_of_beq q.2;exact hw ⟨!1,!1⟩
 show wpAny _ _ (if(((C0 items.size 0 lo:Nat):Int)==0&&(1:Int)==1&&(C0 items.size items.size hi-C0 items.size 0 lo)==items.size)=true then _ else _) _ _ s;rw[if_neg hno,Cl]
 first
  |exact wpAny_bind (m:=Builtin.Tuple.tupleExact _) (wpAny_newObj_type (wpAny_pure ⟨_,rfl,wpAny_pure h⟩) htake)
  |exact wpAny_bind (m:=Builtin.Tuple.tupleExact _) (wpAny_newObj_type (wpAny_bind (wpAny_pure (wpAny_pure ⟨_,rfl,wpAny_pure h⟩))) htake)
  |exact wpAny_bind (wpAny_bind (m:=Builtin.Tuple.tupleExact _) (wpAny_newObj_type (wpAny_pure (wpAny_pure ⟨_,rfl,wpAny_pure h⟩)) htake))
  |exact wpAny_bind (wpAny_bind (m:=Builtin.Tuple.tupleExact _) (wpAny_newObj_type (wpAny_pure ⟨_,rfl,wpAny_pure h⟩) htake))
end
end HT
namespace L2
open PySem PySem.Spec PyProof.Rows
abbrev TO:=St->Hp->(Option Int->Hp->Prop)->Prop
def PO(X:Cx)(e:Option Expr)(t:TO):Prop:=
 ∀(ζ:List (Addr×Obj))(s:Shared)(σ:St)(H:Hp)(Q:Option Int->Hp->Prop),Inv X ζ σ H s->t σ H Q->
  wpAny (model X.prog X.w) X.A (evalPart e X.env) (λu s'=>∃o H',Inv X ζ σ H' s'/\IsPart u o/\Q o H') X.xe s
def rO:TO:=λ_ H Q=>Q none H
def rQ(t:TE):TO:=fun σ H Q=>t σ H λx H1=>∃i,x=.int i/\Q (some i) H1
section
variable{X:Cx}{e:Expr}{te:TE}{lo hi:Option Expr}{tl th:TO}{pos p2:Pos}
theorem Cn:PO X none rO:=by
 intro ζ s σ H Q I h;rw[evalPart_none];exact wpAny_pure ⟨none,H,I,.none,h⟩
theorem Co(h:PE X e te):PO X (some e) (rQ te):=by
 intro ζ s σ H Q I hw;rw[evalPart_some];refine A7 (h ζ s σ H _ I hw) λu s1 ⟨x,H1,I1,r1,q1⟩=>?_
 obtain⟨i,rfl,q⟩:=q1;obtain⟨t,rfl⟩:=r1;exact⟨some i,H1,I1,.int i t,q⟩
def SlR(X:Cx)(r:V->Option Int->Option Int->Hp->VK->Prop):Prop:=
 ∀(ζ:List (Addr×Obj))(s:Shared)(σ:St)(H:Hp)(x:V)(v vl vu:Value)(lo hi:Option Int)(sl:Addr)(Q:VK),Inv X ζ σ H s->RelV x v->s.heap.IsSliceOf sl vl vu .none->IsPart vl lo->IsPart vu hi->r x lo hi H Q->
  ∃T id,typeLookup (.type T) "__getitem__"=pure (some (.builtin id))/\s.TypeIs v T/\wpAny (model X.prog X.w) X.A (getItem v (.ref sl)) (EP X ζ σ Q) X.xe s
theorem SlR.or{r r':V->Option Int->Option Int->Hp->VK->Prop}(h:SlR X r)(h':SlR X r'):SlR X (λx lo hi H Q=>r x lo hi H Q∨r' x lo hi H Q):=by
 intro ζ s σ H x v vl vu lo hi sl Q I rx hs pl pu q;rcases q with q|q
 ·exact h ζ s σ H x v vl vu lo hi sl Q I rx hs pl pu q
 ·exact h' ζ s σ H x v vl vu lo hi sl Q I rx hs pl pu q
def jA(r:V->Option Int->Option Int->Hp->VK->Prop)(te:TE)(tl th:TO):TE:=fun σ H Q=>te σ H λx H1=>tl σ H1 λl H2=>th σ H2 λu H3=>r x l u H3 Q
theorem rR{r:V->Option Int->Option Int->Hp->VK->Prop}(hr:SlR X r)(he:PE X e te)(hl:PO X lo tl)(hu:PO X hi th):PE X (.Subscript e (.Slice lo hi none p2) pos) (jA r te tl th):=by
 intro ζ s σ H Q I h;refine Subscript_ (A7 (he ζ s σ H _ I h) λv s1 h9=>?_);obtain⟨x,H1,I1,r1,q1⟩:=h9;refine wpAny_Slice (A7 (hl ζ s1 σ H1 _ I1 q1) λvl s2 ⟨l,H2,I2,pl,q2⟩=>A7 (hu ζ s2 σ H2 _ I2 q2) λvu s3 h9=>?_);obtain⟨u,H3,I3,pu,q3⟩:=h9;rw[evalPart_none];refine wpAny_pure ?_;have I4:Inv X ζ σ H3 {s3 with heap:=s3.heap.push {cls:=.type "slice",data:=.fields #[vl,vu,.none]} }:=I3.kept (t':=s3.toks) λb ob q=>Heap.get?_push_of_some _ q
 obtain⟨T,id,hT,ht,hg⟩:=hr ζ {s3 with heap:=s3.heap.push {cls:=.type "slice",data:=.fields #[vl,vu,.none]} } σ H3 x v vl vu l u s3.heap.objs.size Q I4 r1 (Heap.IsSliceOf.new ..) pl pu q3;show wpAny (model X.prog X.w) X.A (subscriptTail e (.Slice lo hi none p2) v (.ref s3.heap.objs.size)) (EP X ζ σ Q) X.xe {s3 with heap:=s3.heap.push {cls:=.type "slice",data:=.fields #[vl,vu,.none]} };exact tail_any (ops:=[.ref s3.heap.objs.size,v]) ht hT hg (by with_unfolding_all rfl)
def U7(xs:List V)(lo hi:Option Int):List V:=(xs.drop (HT.C0 xs.length 0 lo)).take (HT.C0 xs.length xs.length hi-HT.C0 xs.length 0 lo)
theorem rS(xs:List V)(lo hi:Option Int):(U7 xs lo hi).length<=xs.length:=by
 unfold U7;rw[length_take,length_drop];omega
def rT(K:Frag):V->Option Int->Option Int->Hp->VK->Prop:=λx lo hi H Q=>∃a xs,x=.ref a/\SqT K H a xs/\
 ¬(HT.C0 xs.length 0 lo=0/\HT.C0 xs.length xs.length hi=xs.length)/\∀p,H p=none->Q (.ref p) (upd H p (.tup (U7 xs lo hi)))
theorem Cp:SlR X (rT X.K):=by
 intro ζ s σ H x v vl vu lo hi sl Q I rx hs pl pu h;obtain⟨a,xs,rfl,hx,hw,q⟩:=h;cases rx;obtain⟨its,r,ht,hz⟩:=I.tuple hx;have hlen:its.toArray.size=xs.length:=by rw[size_toArray];exact r.length.symm
 refine⟨"tuple",_,PyProof.Rows.slot_tuple_getitem.lookup,ht.typeIs,?_⟩;refine HT.Cm ht hs pl pu (by rw[hlen];exact hw) ?_ (by rw[hlen];exact hz);rw[hlen];refine⟨.ref s.heap.objs.size,_,I.laid (t':=s.toks) (o:=.tup (U7 xs lo hi)) (λb ob q=>Heap.get?_push_of_some _ q) (le_refl _) ?_,rfl,q _ (I.hok.fresh (le_refl _))⟩;exact⟨le_trans (rS xs lo hi) hz,_,(r.drop (HT.C0 xs.length 0 lo)).take (HT.C0 xs.length xs.length hi-HT.C0 xs.length 0 lo),IsTup.new _ _⟩
def rU(K:Frag):R2:=λx y H Q=>∃a b xs ys,x=.ref a/\y=.ref b/\SqT K H a xs/\SqT K H b ys/\xs≠[]/\xs.length+ys.length<=sizeLine/\
 (ys=[]->Q (.ref a) H)/\(ys≠[]->∀p,H p=none->Q (.ref p) (upd H p (.tup (xs++ys))))
theorem Vals.nil_iff{xs:List V}{us:List Value}(r:Vals xs us):us=[]↔xs=[]:=by
 cases r with
 |nil=>simp
 |cons _ _=>simp
theorem Cq:OpR X (binaryOp .Add) (rU X.K):=by
 intro ζ s σ H x y v u Q I rx ry h;obtain⟨a,b,xs,ys,rfl,rfl,ha,hb,hx,hz,q1,q2⟩:=h;cases rx;cases ry;obtain⟨its,r1,p1,_⟩:=I.tuple ha;obtain⟨its2,r2,p2,_⟩:=I.tuple hb;refine HT.Cg p1 p2 (λz=>hx (r1.nil_iff.mp z)) (λz=>⟨.ref a,H,I,rfl,q1 (r2.nil_iff.mp z)⟩) (λz=>?_) (by rw[←r1.length,←r2.length];exact hz);refine⟨.ref s.heap.objs.size,_,I.laid (t':=s.toks) (o:=.tup (xs++ys)) (λb ob q=>Heap.get?_push_of_some _ q) (le_refl _) ?_,rfl,q2 (λw=>z (r2.nil_iff.mpr w)) _ (I.hok.fresh (le_refl _))⟩;exact⟨by rw[length_append];exact hz,_,r1.append r2,IsTup.new _ _⟩
end
end L2
namespace L2
open PySem PySem.Spec PyProof.Rows
def Y7(n:Nat)(i:Int):Option Nat:=if 0<=i then(if i<n then some i.toNat else none)else if -(n:Int)<=i then some (i+n).toNat else none
def M7{α:Type}(xs:List α)(i:Int):Option α:=(Y7 xs.length i).bind λj=>xs[j]?
theorem rV{n:Nat}{i:Int}{j:Nat}(h:Y7 n i=some j):seqIndex? i n=some j/\j<n/\-(n:Int)<=i/\i<n:=by
 unfold Y7 at h;by_cases h0:0<=i
 ·rw[if_pos h0]at h
  by_cases h1:i<n
  ·rw[if_pos h1]at h
   have e:i.toNat=j:=Option.some.inj h;exact⟨by rw[seqIndex_of h0 h1,e],!1,!1,h1⟩
  ·rw[if_neg h1]at h;cases h
 ·rw[if_neg h0]at h
  by_cases h1 : -(n:Int)<=i
  ·rw[if_pos h1]at h
   have e:(i+n).toNat=j:=Option.some.inj h;exact⟨by rw[seqIndex_neg (!1) h1,e],!1,h1,!1⟩
  ·rw[if_neg h1]at h;cases h
theorem jB{α:Type}{xs:List α}{i:Int}{v:α}(h:M7 xs i=some v):∃j,seqIndex? i xs.length=some j/\xs[j]?=some v/\j<xs.length/\-(xs.length:Int)<=i/\i<xs.length:=by
 unfold M7 at h;cases e:Y7 xs.length i with
 |none=>rw[e]at h;cases h
 |some j=>
  rw[e]at h;obtain⟨h1,h2,h3,h4⟩:=rV e;exact⟨j,h1,h,h2,h3,h4⟩
theorem cI{α:Type}{xs:List α}{j:Nat}{v:α}(h:xs[j]?=some v):M7 xs (j:Int)=some v:=by
 have hj:j<xs.length:=(List.getElem?_eq_some_iff.mp h).1;have e:Y7 xs.length (j:Int)=some j:=by
  unfold Y7;rw[if_pos (!1),if_pos (!1)];simp
 unfold M7;rw[e];exact h
def rW(b:Expr):Prop:=∀o i,subscripted b false o i=operate [o,i] (getItem o i)
def IxR(X:Cx)(r:R2):Prop:=
 ∀(value slice:Expr)(ζ:List (Addr×Obj))(s:Shared)(σ:St)(H:Hp)(x y:V)(v u:Value)(Q:VK),Inv X ζ σ H s->RelV x v->RelV y u->r x y H Q->
  subscripted slice false v u=operate [v,u] (getItem v u)->wpAny (model X.prog X.w) X.A (subscriptTail value slice v u) (EP X ζ σ Q) X.xe s
def cJ(X:Cx)(id:String)(r:V->List V->Hp->VK->Prop):Prop:=
 ∀(ζ:List (Addr×Obj))(s:Shared)(σ:St)(H:Hp)(x:V)(xs:List V)(v:Value)(us:List Value)(Q:VK),Inv X ζ σ H s->RelV x v->Vals xs us->r x xs H Q->
  wpAny (model X.prog X.w) X.A (call (.builtin id) (v::us)) (EP X ζ σ Q) X.xe s
section
variable{X:Cx}{a b:Expr}{ta tb:TE}{pos:Pos}
theorem IxR.or{r r':R2}(h:IxR X r)(h':IxR X r'):IxR X (λx y H Q=>r x y H Q∨r' x y H Q):=by
 intro value slice ζ s σ H x y v u Q I rx ry q hs;rcases q with q|q
 ·exact h value slice ζ s σ H x y v u Q I rx ry q hs
 ·exact h' value slice ζ s σ H x y v u Q I rx ry q hs
theorem Cs{r:R2}(hr:IxR X r)(ha:PE X a ta)(hb:PE X b tb)(hs:rW b):PE X (.Subscript a b pos) (T7 r ta tb):=by
 intro ζ s σ H Q I h;exact Subscript_ (iR ha hb I h λv u s2 x y H2 I2 rx ry q=>hr a b ζ s2 σ H2 x y v u Q I2 rx ry q (hs _ _))
def rX(K:Frag):R2:=λx y H Q=>∃p xs i v,x=.ref p/\y=.int i/\SqL K H p xs/\M7 xs i=some v/\Q v H
def rY(K:Frag):R2:=λx y H Q=>∃p xs i v,x=.ref p/\y=.int i/\SqT K H p xs/\M7 xs i=some v/\Q v H
def rZ:R2:=λx y H Q=>∃z i c,x=.str z/\y=.int i/\z.length<=sizeLine/\M7 z.cps.toList i=some c/\Q (.str ⟨#[c]⟩) H
theorem Ct:IxR X (rX X.K):=by
 intro value slice ζ s σ H x y v u Q I rx ry h hs;obtain⟨p,xs,i,z,rfl,rfl,hq,he,q⟩:=h;cases rx;obtain⟨t,rfl⟩:=ry;obtain⟨its,r,pl,hz⟩:=I.list hq;obtain⟨j,h1,h2,h3,h4,h5⟩:=jB he;obtain⟨w,ew,rw'⟩:=r.get h2;have hl:=r.length;have hn:=aJ;have fin:EP X ζ σ Q w s:=⟨z,H,I,rw',q⟩;by_cases h0:0<=i
 ·have hj:i.toNat=j:=by
   rw[seqIndex_of h0 h5]at h1;exact Option.some.inj h1
  exact item_listR pl.isList h0 (!1) (by rw[hj];simpa using ew) fin hs
 ·have hj:(i+(its.toArray.size:Int)).toNat=j:=by
   rw[seqIndex_neg (!1) h4]at h1;rw[size_toArray,←hl];exact Option.some.inj h1
  exact subscriptTail_builtinR (x:=w) pl.isList.typeIs slot_list_getitem.lookup
   (wpAny_getItem_list_neg (Q:=λr s'=>r=w/\EP X ζ σ Q r s') pl.isList (!1) (by rw[size_toArray]<;>omega) (!1) (by rw[hj];simpa using ew) ⟨rfl,fin⟩) hs
theorem Cu:IxR X (rY X.K):=by
 intro value slice ζ s σ H x y v u Q I rx ry h hs;obtain⟨p,xs,i,z,rfl,rfl,hq,he,q⟩:=h;cases rx;obtain⟨t,rfl⟩:=ry;obtain⟨its,r,pl,hz⟩:=I.tuple hq;obtain⟨j,h1,h2,h3,h4,h5⟩:=jB he;obtain⟨w,ew,rw'⟩:=r.get h2;have hl:=r.length;have hn:=aJ;have fin:EP X ζ σ Q w s:=⟨z,H,I,rw',q⟩;exact subscriptTail_builtinR (x:=w) pl.typeIs slot_tuple_getitem.lookup
  (getItem_tuple (j:=j) (Q:=λr s'=>r=w/\EP X ζ σ Q r s') pl (!1) (!1) (by rw[size_toArray,←hl];exact h1) (by simpa using ew) ⟨rfl,fin⟩) hs
theorem Cv:IxR X rZ:=by
 intro value slice ζ s σ H x y v u Q I rx ry h hs;obtain⟨z,i,c,rfl,rfl,hz,he,q⟩:=h;obtain⟨t,rfl⟩:=rx;obtain⟨t',rfl⟩:=ry;obtain⟨j,h1,h2,h3,h4,h5⟩:=jB he;have hl:z.cps.toList.length=z.length:=by simp[Str.length]
 rw[hl]at h1 h4 h5;have hn:=aJ;exact tail_any (typeIs_str s z t) slot_str_getitem.lookup (getItem_str (c:=c) (by
  have e1:decide (i < -(2^63:Int))=false:=decide_eq_false (!1);have e2:decide (i ≥ 2^63)=false:=decide_eq_false (!1);rw[e1,e2,Bool.or_false]) (by rw[h1];simpa using h2) ⟨.str ⟨#[c]⟩,H,I.tok _,⟨_,rfl⟩,q⟩) hs
theorem Cw(its:List Value)(n j:Nat)(u:Value):Obj.mapSeq (·.setIfInBounds j u) {cls:=.type "list",data:=.seq its.toArray n}={cls:=.type "list",data:=.seq (its.set j u).toArray n}:=by
 simp[Obj.mapSeq]
theorem Inv.lst{ζ:List (Addr×Obj)}{σ:St}{H:Hp}{s:Shared}{p:Addr}{xs:List V}(I:Inv X ζ σ H s)(h:H p=some (.lst xs)):
  ∃(its:List Value)(n:Nat),Vals xs its/\s.heap.get? p=some {cls:=.type "list",data:=.seq its.toArray n}/\xs.length<=sizeLine:=by
 obtain⟨z,its,n,r,e⟩:=I.hok p _ h;exact⟨its,n,r,e,z⟩
theorem Inv.lstUpd{ζ:List (Addr×Obj)}{σ:St}{H:Hp}{s:Shared}{p:Addr}{xs ys:List V}{its its':List Value}{n n':Nat}{f:Obj->Obj}(I:Inv X ζ σ H s)(h:H p=some (.lst xs))
  (ho:s.heap.get? p=some {cls:=.type "list",data:=.seq its.toArray n}) (hf:f {cls:=.type "list",data:=.seq its.toArray n}={cls:=.type "list",data:=.seq its'.toArray n'}) (r:Vals ys its') (hz:ys.length<=sizeLine) (t:Nat):
  Inv X ζ σ (upd H p (.lst ys)) {s with heap:=s.heap.update p f,toks:=t}:=by
 have e:(s.heap.update p f).get? p=some {cls:=.type "list",data:=.seq its'.toArray n'}:=by
  rw[Heap.get?_update_self f ho (by rw[hf]<;>rfl),hf]
 refine I.write (x:=p) (e:=p) (by rw[h];trivial) (.inl rfl) (λb u hb q=>(Heap.get?_update_other _ _ (Ne.symm hb)).trans q) ⟨_,e⟩ ?_;exact⟨hz,its',n',r,e⟩
def sA:V->V->V->Hp->(Hp->Prop)->Prop:=λo i v H Q=>∃p xs k j,o=.ref p/\i=.int k/\H p=some (.lst xs)/\Y7 xs.length k=some j/\Q (upd H p (.lst (xs.set j v)))
theorem Cy:PSet X sA:=by
 intro ζ s σ H o i v ov iv u Q I ro ri rv h;obtain⟨p,xs,k,j,rfl,rfl,hp,hj,q⟩:=h;cases ro;obtain⟨t,rfl⟩:=ri;obtain⟨its,n,r,ho,hz⟩:=I.lst hp;obtain⟨h1,h2,h3,h4⟩:=rV hj;have hl:=r.length;have hn:=aJ;have I':Inv X ζ σ (upd H p (.lst (xs.set j v))) {s with heap:=s.heap.update p (Obj.mapSeq (·.setIfInBounds j u))}:=
  I.lstUpd hp ho (Cw its n j u) (r.set rv j) (by rw[List.length_set];exact hz) s.toks
 by_cases h0:0<=k
 ·have hk:k.toNat=j:=by
   rw[seqIndex_of h0 h4]at h1;exact Option.some.inj h1
  exact PySem.W.ki_setAt ho h0 (!1) (by rw[size_toArray,←hl];exact h4) (by rw[hk];exact⟨_,I',q⟩)
 ·have hk:(k+(its.toArray.size:Int)).toNat=j:=by
   rw[seqIndex_neg (!1) h3]at h1;rw[size_toArray,←hl];exact Option.some.inj h1
  exact PySem.W.ki_setBack ho (!1) (by rw[size_toArray,←hl];exact h3) (!1) (by rw[hk];exact⟨_,I',q⟩)
theorem Cz(lo hi:Option Int)(n:Nat):(sliceBounds lo hi none n).1=((HT.C0 n 0 lo:Nat):Int)/\(sliceBounds lo hi none n).2.1=((HT.C0 n n hi:Nat):Int)/\(sliceBounds lo hi none n).2.2=1:=by
 refine⟨?_,?_,rfl⟩
 ·cases lo with
  |none=>simp[sliceBounds,HT.C0]
  |some i=>
   simp only[sliceBounds,HT.C0,getD_none,show(1:Int)>0 by decide,if_true];by_cases h:i<0
   ·simp only[h,if_true]<;>omega
   ·simp only[h,if_false]<;>omega
 ·cases hi with
  |none=>simp[sliceBounds,HT.C0]
  |some i=>
   simp only[sliceBounds,HT.C0,getD_none,show(1:Int)>0 by decide,if_true];by_cases h:i<0
   ·simp only[h,if_true]<;>omega
   ·simp only[h,if_false]<;>omega
theorem CA(its:List Value)(lo hi:Option Int):slicePick its.toArray lo hi none=((its.drop (HT.C0 its.length 0 lo)).take (HT.C0 its.length its.length hi-HT.C0 its.length 0 lo)).toArray:=by
 obtain⟨h1,h2,h3⟩:=Cz lo hi its.toArray.size;unfold slicePick;rw[h1,h2,h3];simp only[sliceRange_one,pick_run,size_toArray]<;>rfl
def sB(K:Frag):V->Option Int->Option Int->Hp->VK->Prop:=λx lo hi H Q=>∃a xs,x=.ref a/\SqL K H a xs/\∀p,H p=none->Q (.ref p) (upd H p (.lst (U7 xs lo hi)))
theorem CC:SlR X (sB X.K):=by
 intro ζ s σ H x v vl vu lo hi sl Q I rx hs pl pu h;obtain⟨a,xs,rfl,hx,q⟩:=h;cases rx;obtain⟨its,r,ht,hz⟩:=I.list hx;have hlen:=r.length;refine⟨"list",_,slot_list_getitem.lookup,ht.isList.typeIs,?_⟩;refine wpAny_getItem_list_slice ht.isList hs pl pu .none (!2) ?_ (by rw[size_toArray]<;>omega);rw[CA,←hlen];refine⟨.ref s.heap.objs.size,_,I.laid (t':=s.toks) (o:=.lst (U7 xs lo hi)) (λb ob q=>Heap.get?_push_of_some _ q) (le_refl _) ?_,rfl,q _ (I.hok.fresh (le_refl _))⟩;exact⟨le_trans (rS xs lo hi) hz,_,0,(r.drop (HT.C0 xs.length 0 lo)).take (HT.C0 xs.length xs.length hi-HT.C0 xs.length 0 lo),Heap.get?_push_size _ rfl⟩
theorem CallR.or{f:Value}{r r':List V->Hp->VK->Prop}(h:CallR X f r)(h':CallR X f r'):CallR X f (λxs H Q=>r xs H Q∨r' xs H Q):=by
 intro ζ s σ H xs us Q I rs q;rcases q with q|q
 ·exact h ζ s σ H xs us Q I rs q
 ·exact h' ζ s σ H xs us Q I rs q
def jC(K:Frag)(T:String)(x:V)(H:Hp):Prop:=match x with
 |.str _=>T="str"
 |.int _=>T="int"
 |.ref p=>(T="list"/\∃xs,SqL K H p xs)∨(T="tuple"/\∃o,K.lookup p=some o/\o.cls=.type "tuple"/\o.dict=none)∨
   (T="dict"/\((∃kvs,H p=some (.dK kvs))∨∃kvs,H p=some (.dT kvs)))∨(T="set"/\∃S n,H p=some (.set S n))
 |_=>False
theorem sC{ζ:List (Addr×Obj)}{σ:St}{H:Hp}{s:Shared}{T:String}{x:V}{v:Value}(I:Inv X ζ σ H s)(r:RelV x v)(ty:jC X.K T x H):
  s.TypeIs v T/\∀a,v=.ref a->∃ob,s.heap.get? a=some ob/\ob.dict=none:=by
 cases x with
 |str z=>
  obtain⟨t,rfl⟩:=r;cases(show T="str" from ty);exact⟨typeIs_str s z t,λ_ e=>nomatch e⟩
 |int i=>
  obtain⟨t,rfl⟩:=r;cases(show T="int" from ty);exact⟨typeIs_int s i t,λ_ e=>nomatch e⟩
 |ref p=>
  cases r;rcases ty with⟨rfl,xs,hq⟩|⟨rfl,o,hk,hc,hd⟩|⟨rfl,hk⟩|⟨rfl,S,n,hk⟩
  ·obtain⟨its,_,pl,_⟩:=I.list hq
   refine⟨pl.isList.typeIs,λa e=>?_⟩;cases e;obtain⟨o,n,e,c,hd,_⟩:=pl;exact⟨o,e,hd⟩
  ·refine⟨⟨o,I.kIn p o hk,hc⟩,λa e=>?_⟩
   cases e;exact⟨o,I.kIn _ o hk,hd⟩
  ·have z:∃o,s.heap.get? p=some o/\o.ExactDict:=by
    rcases hk with⟨kvs,hk⟩|⟨kvs,hk⟩
    ·obtain⟨_,_,_,_,o,_,_,e,ex,_⟩:=I.hok p _ hk
     exact⟨o,e,ex⟩
    ·obtain⟨_,_,_,_,o,_,_,e,ex,_⟩:=I.hok p _ hk
     exact⟨o,e,ex⟩
   obtain⟨o,e,ex⟩:=z;refine⟨⟨o,e,ex.1⟩,λa e2=>?_⟩;cases e2;exact⟨o,e,ex.2.1⟩
  ·obtain⟨o,_,_,_,e,ex,_⟩:=I.hok p _ hk
   refine⟨⟨o,e,ex.1⟩,λa e2=>?_⟩;cases e2;exact⟨o,e,ex.2.1⟩
 |_=>exact False.elim ty
def jD(K:Frag)(T:String)(r:V->List V->Hp->VK->Prop)(to:TE):TE:=fun σ H Q=>to σ H λx H1=>jC K T x H1/\r x [] H1 Q
def jE(K:Frag)(T:String)(r:V->List V->Hp->VK->Prop)(to:TE)(t:TA):TE:=fun σ H Q=>to σ H λx H1=>jC K T x H1/\t σ H1 λxs H2=>r x xs H2 Q
variable{o e:Expr}{es:List Expr}{to:TE}{t:TA}{name:Str}{apos cpos:Pos}{T id:String}{r:V->List V->Hp->VK->Prop}
theorem CD(pa:PlainAttrs T)(slot:Slot T name id)(hty:typeOf (.builtin id)=pure (.type "method_descriptor"))(hm:cJ X id r)(ho:PE X o to)
  (hbase:attributeBase o name X.env (eval o X.env)=eval o X.env:=by rfl) (hline:(apos.endLine==cpos.line)=true:=by rfl):PE X (.Call (.Attribute o name apos) [] [] cpos) (jD X.K T r to):=by
 intro ζ s σ H Q I h;refine wpAny_Call_method0_late hbase hline (A7 (ho ζ s σ H _ I h) λv s1 h9=>?_);obtain⟨x,H1,I1,r1,ty,q1⟩:=h9;obtain⟨h1,h2⟩:=sC I1 r1 ty;exact⟨T,id,pa,slot,hty,h1,h2,Calls.callWith_builtin rfl (PySem.evalArgs_none (hm ζ s1 σ H1 x [] v [] Q I1 r1 .nil q1))⟩
theorem CF(pa:PlainAttrs T)(slot:Slot T name id)(hty:typeOf (.builtin id)=pure (.type "method_descriptor"))(hm:cJ X id r)(ho:PE X o to)(ha:PA X (e::es) t)
  (hbase:attributeBase o name X.env (eval o X.env)=eval o X.env:=by rfl)
  (hfew:((backTo cpos (starEach (e::es) X.env)).all (λx=>!x.1)&&(backToKw cpos (keywordEach [] X.env)).all (λx=>x.1.isSome)
   && decide ((e::es).length+([]:List Keyword).length+(if([]:List Keyword).isEmpty then 0 else 1)<30))=true:=by rfl)
  (hline:(apos.endLine==cpos.line)=true:=by rfl) (hs:starEach (e::es) X.env=(false,eval e X.env)::starEach es X.env:=by rfl) (hplain:(backTo cpos (starEach es X.env)).any (·.1)=false:=by rfl):
  PE X (.Call (.Attribute o name apos) (e::es) [] cpos) (jE X.K T r to t):=by
 intro ζ s σ H Q I h;refine wpAny_Call_method_late hbase hfew hline rfl (A7 (ho ζ s σ H _ I h) λv s1 h9=>?_);obtain⟨x,H1,I1,r1,ty,q1⟩:=h9;obtain⟨h1,h2⟩:=sC I1 r1 ty;refine⟨T,id,pa,slot,hty,h1,h2,?_⟩;have hA:=ha cpos ζ s1 σ H1 _ I1 q1;rw[hs]at hA ⊢;refine Calls.callWith_builtin (by show(false||(backTo cpos (starEach es X.env)).any (·.1))=false;rw[hplain]<;>rfl) (Calls.evalArgs_plain ?_);exact A7 hA λus s2 ⟨vs,H2,I2,r2,q2⟩=>hm ζ s2 σ H2 x vs v us Q I2 r1 r2 q2
end
end L2
namespace L2
open PySem PySem.Spec PyProof.Rows
def jF(X:Cx)(id:String)(r:V->List V->Hp->VK->Prop):Prop:=
 ∀(ζ:List (Addr×Obj))(s:Shared)(σ:St)(H:Hp)(x:V)(xs:List V)(v:Value)(us:List Value)(Q:VK),Inv X ζ σ H s->RelV x v->Vals xs us->r x xs H Q->
  wpAny (model X.prog X.w) X.A (call (.builtin id) (v::us)) (EP X ζ σ Q) X.xe s
theorem Vals.one:∀{x:V}{us:List Value},Vals [x] us->∃u,us=[u]/\RelV x u
 |_,_,.cons r .nil=>⟨_,rfl,r⟩
theorem Vals.two{x y:V}{us:List Value}:Vals [x,y] us->∃u v,us=[u,v]/\RelV x u/\RelV y v
 |.cons r t=>by obtain⟨v,e,q⟩:=Vals.one t;exact⟨_,v,by rw[e],r,q⟩
theorem Vals.zero:∀{us:List Value},Vals [] us->us=[]
 |_,.nil=>rfl
theorem Vals.dropLast{xs:List V}{us:List Value}(h:Vals xs us):Vals xs.dropLast us.dropLast:=by
 induction h with
 |nil=>exact .nil
 |cons r t ih=>
  cases t with
  |nil=>exact .nil
  |cons q t'=>exact .cons r ih
theorem Vals.reverse{xs:List V}{us:List Value}(h:Vals xs us):Vals xs.reverse us.reverse:=by
 induction h with
 |nil=>exact .nil
 |cons r t ih=>rw[reverse_cons,reverse_cons];exact Vals.append ih (.cons r .nil)
theorem CG{α:Type}(l:List α):l.eraseIdx (l.length-1)=l.dropLast:=by
 induction l with
 |nil=>rfl
 |cons a r ih=>
  cases r with
  |nil=>rfl
  |cons b r=>
   have e:(a::b::r).length-1=((b::r).length-1)+1:=by
    have h1:(a::b::r).length=r.length+2:=rfl;have h2:(b::r).length=r.length+1:=rfl;omega
   rw[e,List.eraseIdx_cons_succ,ih]
   all_goals rfl
section
variable{X:Cx}{ζ:List (Addr×Obj)}{σ:St}{H:Hp}{s:Shared}{l b:Addr}{xs ys zs:List V}
theorem Inv.lset{its its':List Value}{n:Nat}{f:Array Value->Array Value}{t':Nat}(I:Inv X ζ σ H s)(hH:H l=some (.lst xs))
  (e:s.heap.get? l=some {cls:=.type "list",data:=.seq its.toArray n}) (hf:f its.toArray=its'.toArray) (hv:Vals ys its') (hz:ys.length<=sizeLine):
  Inv X ζ σ (upd H l (.lst ys)) {s with heap:=s.heap.update l (Obj.mapSeq f),toks:=t'}:=by
 have q:=PySem.IsL.update e f;rw[hf]at q;refine I.write (x:=l) (e:=l) (by rw[hH];exact trivial) (.inl rfl) (λb' u hb hu=>(Heap.get?_update_other s.heap (Obj.mapSeq f) (Ne.symm hb)).trans hu) ⟨_,q⟩ ?_;exact⟨hz,its',_,hv,q⟩
theorem Inv.lnew{its:List Value}{t':Nat}(I:Inv X ζ σ H s)(hv:Vals ys its)(hz:ys.length<=sizeLine):
  Inv X ζ σ (upd H s.heap.objs.size (.lst ys)) {s with heap:=s.heap.push {cls:=.type "list",data:=.seq its.toArray},toks:=t'}:=
 I.laid (λ_ _ q=>Heap.get?_push_of_some _ q) (le_refl _) ⟨hz,its,0,hv,Heap.get?_push_size _ rfl⟩
theorem Inv.fresh(I:Inv X ζ σ H s):H s.heap.objs.size=none:=I.hok.fresh (le_refl _)
theorem Inv.lstM(I:Inv X ζ σ H s)(hH:H l=some (.lst xs)):xs.length<=sizeLine/\∃(its:List Value)(n:Nat),Vals xs its/\xs.length=its.length/\s.heap.get? l=some {cls:=.type "list",data:=.seq its.toArray n}:=by
 obtain⟨z,its,n,r,e⟩:=I.hok l _ hH;exact⟨z,its,n,r,r.length,e⟩
theorem CH{n:Nat}(h:n<=sizeLine):Builtin.List.listTooLong n=false:=by
 unfold Builtin.List.listTooLong;exact decide_eq_false (!1)
end
section
variable{X:Cx}
def fB:V->List V->Hp->VK->Prop:=λx vs H Q=>∃l xs y,x=.ref l/\vs=[y]/\H l=some (.lst xs)/\xs.length<sizeLine/\Q .non (upd H l (.lst (xs++[y])))
theorem CI:jF X "list.append" fB:=by
 intro ζ s σ H x vs v us Q I rx rv h;obtain⟨l,xs,y,rfl,rfl,hH,hz,q⟩:=h;cases rx;obtain⟨u,rfl,ru⟩:=rv.one;obtain⟨z,its,n,r,hl,e⟩:=I.lstM hH;refine call_meets F.slot_list_append ⟨_,e,rfl⟩ F.entry_list_append (F.args_list_append_2 _ _) (list_append l its.toArray n u (by rw[size_toArray];omega)) ⟨e,?_⟩;refine⟨.non,_,I.lset (its':=its++[u]) hH e (!2) (r.append (.cons ru .nil)) ?_,rfl,q⟩;rw[length_append,length_singleton];omega
def jG:V->List V->Hp->VK->Prop:=λx vs H Q=>∃l b xs zs,x=.ref l/\vs=[.ref b]/\H l=some (.lst xs)/\H b=some (.lst zs)/\xs.length+zs.length<=sizeLine/\Q .non (upd H l (.lst (xs++zs)))
theorem CJ:jF X "list.extend" jG:=by
 intro ζ s σ H x vs v us Q I rx rv h;obtain⟨l,b,xs,zs,rfl,rfl,hH,hB,hz,q⟩:=h;cases rx;obtain⟨u,rfl,ru⟩:=rv.one;cases ru;obtain⟨z,its,n,r,hl,e⟩:=I.lstM hH;obtain⟨z2,its2,n2,r2,hl2,e2⟩:=I.lstM hB;have hsz:its.toArray.size+its2.toArray.size<=sizeLine:=by rw[size_toArray,size_toArray];omega
 have hlong:¬(!its.toArray.isEmpty&&Builtin.List.listTooLong (its.toArray.size+its2.toArray.size))=true:=by
  rw[CH hsz,Bool.and_false];exact Bool.false_ne_true
 refine call_meets F.slot_list_extend ⟨_,e,rfl⟩ F.entry_list_extend (F.args_list_extend_2 _ _)
  (AutoSeq1.list_extend_list_list_0 l its.toArray n b its2.toArray n2 hlong (by rw[size_toArray];omega) (!1)) ⟨e,e2,?_⟩
 refine⟨.non,_,I.lset (its':=its++its2) hH e (!2) (r.append r2) ?_,rfl,q⟩;rw[length_append];omega
def sD:V->List V->Hp->VK->Prop:=λx vs H Q=>∃l xs y,x=.ref l/\vs=[]/\H l=some (.lst xs)/\xs[xs.length-1]?=some y/\Q y (upd H l (.lst xs.dropLast))
theorem CK:jF X "list.pop" sD:=by
 intro ζ s σ H x vs v us Q I rx rv h;obtain⟨l,xs,y,rfl,rfl,hH,hy,q⟩:=h;cases rx;have hus:=rv.zero;subst hus;obtain⟨z,its,n,r,hl,e⟩:=I.lstM hH;obtain⟨u,hu,ru⟩:=r.get hy;have hy':its.toArray[its.toArray.size-1]?=some u:=by
  show its.toArray[its.length-1]?=some u;rw[←Array.getElem?_toList,←hl];exact hu
 refine call_meets F.slot_list_pop ⟨_,e,rfl⟩ F.entry_list_pop (F.args_list_pop_1 _) (MeetsSeq.list_pop_last l its.toArray n u hy' (by rw[size_toArray];omega)) ⟨e,?_⟩;refine⟨y,_,I.lset (its':=its.dropLast) hH e ?_ r.dropLast ?_,ru,q⟩
 ·show its.toArray.eraseIdxIfInBounds (its.toArray.size-1)=its.dropLast.toArray
  rw[size_toArray,List.eraseIdxIfInBounds_toArray,CG]
 ·rw[List.length_dropLast]
  omega
def sE:R2:=λx y H Q=>∃l b xs zs,x=.ref l/\y=.ref b/\H l=some (.lst xs)/\H b=some (.lst zs)/\xs.length+zs.length<=sizeLine/\∀p,H p=none->Q (.ref p) (upd H p (.lst (xs++zs)))
theorem CL:OpR X (binaryOp .Add) sE:=by
 intro ζ s σ H x y v u Q I rx ry h;obtain⟨l,b,xs,zs,rfl,rfl,hH,hB,hz,q⟩:=h;cases rx;cases ry;obtain⟨z,its,n,r,hl,e⟩:=I.lstM hH;obtain⟨z2,its2,n2,r2,hl2,e2⟩:=I.lstM hB;refine PySem.P.add_list e e2 ?_ (by rw[size_toArray,size_toArray];omega);have ea:its.toArray++its2.toArray=(its++its2).toArray:=by simp
 rw[ea];exact⟨.ref _,_,I.lnew (t':=s.toks) (r.append r2) (by rw[length_append];omega),rfl,q _ I.fresh⟩
end
end L2
namespace Att
open PySem PySem.W PySem.Calls PyProof.Rows
theorem CM{P:Params}{h:Heap}:∀(ns:List Int)(vs:List Value),WellAll P h vs (ns.map WData.int)->IntsAre vs ns:=by
 intro ns
 induction ns with
 |nil=>
  intro vs w;rw[map_nil]at w;cases w;exact .nil
 |cons n ns ih=>
  intro vs w;rw[map_cons]at w;cases w with
  |cons a b=>
   cases a;exact .cons _ _ (ih _ b)
theorem CN{l:OpenLaw}{n:Nat}(hn:l.most=some n){P:Params}{h:Heap}{args:List WData}{vals:List Value}
  (hpre:l.row.toRowW.claim.pre args=true) (hwl:WellAll P h vals args):
  ∃a vs ns,vals=[Value.ref a]/\args=[WData.list (ns.map WData.int)]/\h.get? a=some {cls:=.type "list",data:=.seq vs.toArray}/\IntsAre vs ns/\ns.length<=n:=by
 have hsh:WShape.hasAll [] args [.list .int]=true:=(pre_splitW hpre).1;have hc:l.pre.holds [] {args:=args}=true:=(pre_splitW hpre).2;obtain⟨d,r,rfl,h1,h2⟩:=hasAllW_cons hsh;obtain rfl:=hasAllW_nil h2;obtain⟨xs,rfl,h3⟩:=hasW_list h1;obtain⟨ns,rfl⟩:=items_int h3;have hlen:ns.length<=n:=by
  unfold OpenLaw.pre at hc;have h4:(WTm.not (.lt (.lit (.int (n:Int))) (.len (.arg 0)))).holds [] {args:=[.list (ns.map .int)]}=true:=by
   have h4:=(holds_andW hc).1;rw[hn]at h4;exact h4
  have h5:=condW_of h4 (w_not (w_lt w_lit (w_len_list (w_arg rfl))));rw[length_map]at h5;refine Nat.le_of_not_lt λq=>?_
  have q':(n:Int)<((ns.length:Nat):Int):=by omega
  first
   |(rw[decide_eq_true q']at h5;exact absurd h5 (!3))
   |(simp at h5;omega)
 cases hwl with
 |cons w1 w2=>
  cases w2;cases w1 with
  |list ho hall=>exact⟨_,_,ns,rfl,rfl,ho,CM ns _ hall,hlen⟩
theorem CO(l:OpenLaw)(args:List WData):l.row.toRowW.claim.post args (.bool true) args=true:=
 postW_of (r:=l.row.toRowW) (X:=(true==true))
  (show WShape.has [] (.bool true) .bool=true by first|rfl|decide|simp[WShape.has,WShape.arms,WShape.armsAll])
  (show(WTm.eq .res (.lit (.bool true))).value [] {args:=args,res:=some (.bool true),after:=args}=some (.bool (true==true))from w_eq_bool (w_res rfl) w_lit) rfl
theorem CP{l:OpenLaw}{n:Nat}{q:Program}{loose:List Str}{XP:(Str->Option Value)->Heap->Prop}{YP:World->Heap->Prop}{d:DefRec}
  (hn:l.most=some n) (hdf:d.params.defaults=[])
  (call:∀(w:World)(s₀ s₁:Shared)(mg mb:Str->Option Value)(fa:Addr)(o:Obj)(pm cd doc:Value)(a:Addr)(vs:List Value)(ns:List Int),
   Ground q loose [] XP w s₀ mg mb s₁.heap->YP w s₁.heap->
   s₁.heap.get? fa=some o->o.data=.func (docDef d.name d.params d.body d.scope pm cd doc)->s₁.heap.CodeRec cd d.name->mg d.name=some (.ref fa)->
   s₁.heap.get? a=some {cls:=.type "list",data:=.seq vs.toArray}->IntsAre vs ns->ns.length<=n->s₁.gens=#[]->
   codeAny (model l.prog w) callerA (.call (.ref fa) ⟨[.ref a],[]⟩) (λr s'=>r=.ok (.ret (.bool true))/\OldK s₁.heap s'.heap/\s'.os=s₁.os/\AllBare s'.gens) s₁):
  WalkO q loose XP YP l.row.toRowW d [] (λf vs=>PySem.call f vs):=by
 intro w s₀ s₁ mg mb G Y fa o pm cd doc dV kV ho hd hcd hD hmg hg args vals as hpre hlay hrd hwl hlo;obtain rfl:dV=.none:=Dflts.none hD hdf;obtain rfl:kV=.none:=Dflts.noKw hD;obtain⟨a,vs,ns,rfl,rfl,hobj,hints,hlen⟩:=CN hn hpre hwl;refine enter_call (codeAny_mono (call w s₀ s₁ mg mb fa o pm cd doc a vs ns G Y ho (fd_plain hd) hcd hmg hobj hints hlen hg) λr s' hq=>?_);obtain⟨rfl,h2,h3,h4⟩:=hq;exact⟨.inl ⟨.bool true,.bool true,[],rfl,λ_=>rfl,.bool true,CO l _,λ_=>⟨List.Pairwise.nil,λ_ hm=>(nomatch hm)⟩⟩,h2,h3,h4⟩
end Att
namespace L2
open PySem PySem.Spec PyProof.Rows
theorem sF:∀{vs:List Value}{ns:List Int},IntsAre vs ns->Vals (ns.map V.int) vs
 |_,_,.nil=>.nil
 |_,_,.cons n t h=>.cons ⟨t,rfl⟩ (sF h)
end L2
namespace L2
open PySem PySem.Spec PyProof.Rows
def fE(s:Stmt)(j:Nat):Stmt:=match s with
 |.ClassDef _ _ _ body _ _ _ _ _ _ _=>body.getD j (.Pass ⟨0,0,0,0⟩)
 |_=>.Pass ⟨0,0,0,0⟩
def R3(s:Stmt):Arguments:=match s with
 |.FunctionDef _ a _ _ _ _ _ _ _ _=>a
 |_=>{posonlyargs:=[],args:=[],vararg:=none,kwonlyargs:=[],kw_defaults:=[],kwarg:=none,defaults:=[]}
def N5(s:Stmt):List Stmt:=match s with
 |.FunctionDef _ _ b _ _ _ _ _ _ _=>b
 |_=>[]
def B4(s:Stmt):Scope:=match s with
 |.FunctionDef _ _ _ _ _ _ sc _ _ _=>sc
 |_=>{kind:=.function,names:=[],isGenerator:=false,isCoroutine:=false}
abbrev B9:O9:=λ_ _ _ _ _ _=>False
abbrev E0:XK:=λ_ _ _=>False
theorem aO{X:Cx}:Y6 B9 X E0:=λ_ _ _ _ _ _ _ h=>h.elim
structure Fun(K:Frag)(x qual:Str)(st:Stmt)(f:Addr)(fd:FuncData):Prop where
 ex:∃(oc:Value)(od:Option Addr)(kV doc pm:Value)(an:Option Addr)(cdv ct:Value)(osl:Array (Option Value)),
  fd=fnOf x qual (R3 st) (N5 st) (B4 st) .none kV doc pm an cdv ct/\K.lookup f=some ⟨oc,od,.func fd,osl⟩/\codeIn K cdv qual=true
 kp:keepIn K (.ref f)=true
section
variable{P:Program}{w:World}{K:Frag}{mg:Str->Option Value}{base:Heap}
theorem Fun.ok{x qual:Str}{st:Stmt}{f:Addr}{fd:FuncData}{N ps:List Str}{k:Nat}{sp:Sp}(F:Fun K x qual st f fd)(S:FnScope N ps (B4 st))(len:∀vs H Q E,sp vs H Q E->vs.length=ps.length)
  (hbody:∀(cdv:Value)(A:Around)(outer:List Env)(s:Shared)(H:Hp)(vs:List V)(Q:VK)(E:XK),Room k (A.deeper (envOfC qual (B4 st) s.heap.objs.size f cdv))->sp vs H Q E->
   ∃t,PSs (J3 B9 P w K mg base N qual (B4 st) f cdv A outer s H E).nox (N5 st) t/\t {nx:=λ_ H'=>Q .non H',rt:=Q} (start N vs) H):FnOk P w K mg base B9 (k+1) f fd ps sp:=by
 obtain⟨oc,od,kV,doc,pm,an,cdv,ct,osl,rfl,lk,hcd⟩:=F.ex;refine iZ lk hcd S len λA outer s H vs Q E hr hsp=>?_
 obtain⟨t,h,q⟩:=hbody cdv A outer s H vs Q E hr hsp;exact⟨t,h.nox,q⟩
theorem Fun.binds{x qual:Str}{st:Stmt}{f:Addr}{fd:FuncData}{ps:List Str}(F:Fun K x qual st f fd)
  (h:∀(kV doc pm:Value)(an:Option Addr)(cdv ct:Value)(us:List Value),us.length=ps.length->bindArgs (fnOf x qual (R3 st) (N5 st) (B4 st) .none kV doc pm an cdv ct) ⟨us,[]⟩=pure (ps.zip us)):Binds K fd ps []:=by
 obtain⟨oc,od,kV,doc,pm,an,cdv,ct,osl,rfl,lk,hcd⟩:=F.ex;exact .all (h kV doc pm an cdv ct)
theorem fG{x qual:Str}{st:Stmt}{f:Addr}{oc:Value}{od an:Option Addr}{osl:Array (Option Value)}{kV doc pm cdv ct:Value}(l:K.lookup f=some ⟨oc,od,.func (fnOf x qual (R3 st) (N5 st) (B4 st) .none kV doc pm an cdv ct),osl⟩)
  (c:codeIn K cdv qual=true) (k:keepIn K (.ref f)=true):Fun K x qual st f (fnOf x qual (R3 st) (N5 st) (B4 st) .none kV doc pm an cdv ct):=⟨⟨oc,od,kV,doc,pm,an,cdv,ct,osl,rfl,l,c⟩,k⟩
end
theorem F6{A:Around}{k:Nat}(hr:Room k A):A.units+1<cLine:=lt_of_le_of_lt (Nat.add_le_add_left (by decide:1<=64) _) hr.units
theorem cK{n:Nat}(h:n<=1000):n<sizeLine:=lt_of_le_of_lt h (!3)
section
variable{X:Cx}
theorem pv(i:Nat){x:Str}{pos:Pos}(hN:X.N[i]?=some x:=by rfl)(hv:eI X.env.scope x:=by first|exact Or.inl rfl|exact Or.inr (Or.inl rfl)|exact Or.inr (Or.inr rfl))(hd:(x==("__debug__" : Str))=false:=by decide)
  (hcd:(x==("__classdict__" : Str))=false:=by decide):PE X (.Name x pos) (eJ i):=pF hN hv hd hcd
end
theorem B5{A B:Prop}(h:B):if false=true then A else B:=by
 rw[if_neg Bool.false_ne_true];exact h
theorem D0{A B:Prop}(h:A):if true=true then A else B:=by
 rw[if_pos rfl];exact h
theorem aP{c A B:Prop}[Decidable c](h1:c->A)(h2:¬c->B):if c then A else B:=by
 by_cases h:c
 ·rw[if_pos h]
  exact h1 h
 ·rw[if_neg h]
  exact h2 h
def Same(H H':Hp):Prop:=∀b o,H b=some o->H' b=some o
theorem Same.refl(H:Hp):Same H H:=λ_ _ h=>h
theorem Same.trans{H H1 H2:Hp}(a:Same H H1)(b:Same H1 H2):Same H H2:=λc o h=>b c o (a c o h)
theorem Same.free{H H':Hp}(e:Same H H'){l:Addr}(h:H' l=Option.none):H l=Option.none:=by
 cases q:H l with
 |none=>rfl
 |some o=>
  rw[e l o q]at h;cases h
theorem Same.seq{K:Frag}{H H':Hp}{a:Addr}{xs:List V}(e:Same H H')(h:SqL K H a xs):SqL K H' a xs:=by
 rcases h with(h|⟨o,h⟩)|h
 ·exact .inl (.inl (e _ _ h))
 ·exact .inl (.inr ⟨o,e _ _ h⟩)
 ·exact .inr h
end L2
namespace L2
open PySem PySem.Spec PyProof.Rows
section
variable{κ:Type}[DecidableEq κ]
def K8(kvs:List (κ×V))(k:κ):Option V:=(kvs.find? λkv=>decide (kv.1=k)).map (·.2)
def G8(kvs:List (κ×V))(k:κ)(v:V):List (κ×V):=
 if(kvs.any λkv=>decide (kv.1=k))=true then kvs.map (λkv=>if kv.1=k then(kv.1,v)else kv)else kvs++[(k,v)]
theorem jH{p:κ×V}{r:List (κ×V)}{k:κ}(e:p.1=k):K8 (p::r) k=some p.2:=by simp[K8,find?_cons,e]
theorem jI{p:κ×V}{r:List (κ×V)}{k:κ}(e:¬p.1=k):K8 (p::r) k=K8 r k:=by simp[K8,find?_cons,e]
theorem fH(k:κ):∀kvs:List (κ×V),(kvs.any λkv=>decide (kv.1=k))=(K8 kvs k).isSome
 |[]=>rfl
 |p::r=>by
  rw[any_cons];by_cases e:p.1=k
  ·simp only[jH e,decide_eq_true e,Bool.true_or,Option.isSome_some]
  ·rw[jI e,decide_eq_false e,Bool.false_or];exact fH k r
theorem jJ(kvs:List (κ×V))(k:κ)(v:V):(G8 kvs k v).length<=kvs.length+1:=by
 unfold G8;split
 ·rw[length_map];omega
 ·rw[length_append,length_cons,List.length_nil];omega
theorem CQ{kvs:List (κ×V)}{k:κ}(v:V)(h:K8 kvs k=none):G8 kvs k v=kvs++[(k,v)]:=by
 unfold G8;rw[fH,h];exact if_neg (!3)
theorem RelO.isSome_eq{o:Option V}{u:Option Value}(r:RelO o u):o.isSome=u.isSome:=by
 cases o with
 |none=>cases u with
  |none=>rfl
  |some _=>exact(show False from r).elim
 |some _=>cases u with
  |none=>exact(show False from r).elim
  |some _=>rfl
theorem KV.val{kvs:List (κ×V)}{vs:List (κ×Value)}(r:KV kvs vs)(k:κ):RelO (K8 kvs k) (valueAt vs k):=by
 unfold KV at r
 induction r with
 |nil=>exact True.intro
 |@cons p q ps qs h t ih=>
  obtain⟨h1,h2⟩:=h;by_cases e:p.1=k
  ·have e':q.1=k:=h1.symm.trans e
   have b:valueAt (q::qs) k=some q.2:=by simp[valueAt,find?_cons,e']
   rw[jH e,b];exact h2
  ·have e':¬q.1=k:=λz=>e (h1.trans z)
   have b:valueAt (q::qs) k=valueAt qs k:=by simp[valueAt,find?_cons,e']
   rw[jI e,b];exact ih
theorem KV.any{kvs:List (κ×V)}{vs:List (κ×Value)}(r:KV kvs vs)(k:κ):(kvs.any λkv=>decide (kv.1=k))=vs.any λkv=>decide (kv.1=k):=by
 unfold KV at r
 induction r with
 |nil=>rfl
 |cons h t ih=>rw[any_cons,any_cons,ih,h.1]
theorem KV.repl{kvs:List (κ×V)}{vs:List (κ×Value)}(r:KV kvs vs)(k:κ){y:V}{u:Value}(ry:RelV y u):
  KV (kvs.map λkv=>if kv.1=k then(kv.1,y)else kv) (vs.map λkv=>if kv.1=k then(kv.1,u)else kv):=by
 unfold KV at r ⊢
 induction r with
 |nil=>exact .nil
 |@cons p q ps qs h t ih=>
  rw[map_cons,map_cons];refine .cons ?_ ih;obtain⟨h1,h2⟩:=h;by_cases e:p.1=k
  ·rw[if_pos e,if_pos (h1.symm.trans e)];exact⟨h1,ry⟩
  ·rw[if_neg e,if_neg (λz=>e (h1.trans z))];exact⟨h1,h2⟩
theorem KV.put{kvs:List (κ×V)}{vs:List (κ×Value)}(r:KV kvs vs)(k:κ){y:V}{u:Value}(ry:RelV y u):KV (G8 kvs k y) (stored vs k u):=by
 unfold G8 stored;rw[r.any k];by_cases e:(vs.any λkv=>decide (kv.1=k))=true
 ·rw[if_pos e,if_pos e];exact r.repl k ry
 ·rw[if_neg e,if_neg e];exact Paired.snoc r ⟨rfl,ry⟩
theorem KV.keys{kvs:List (κ×V)}{vs:List (κ×Value)}(r:KV kvs vs):kvs.map (·.1)=vs.map (·.1):=by
 unfold KV at r
 induction r with
 |nil=>rfl
 |cons h t ih=>rw[map_cons,map_cons,ih,h.1]
theorem KV.length{kvs:List (κ×V)}{vs:List (κ×Value)}(r:KV kvs vs):kvs.length=vs.length:=Paired.length r
end
theorem fJ{P:Program}{w:World}{k:A4}{u:Value}(r:RelV (kV k) u):(K3 P w).is k u=true:=by
 cases k with
 |inl i=>obtain⟨t,e⟩:=(show ∃t,u=Value.int i t from r);subst e;exact AJ P w i t
 |inr x=>obtain⟨t,e⟩:=(show ∃t,u=Value.str x t from r);subst e;exact AK P w x t
theorem sH{P:Program}{w:World}:∀{ks:List A4}{us:List Value},Vals (ks.map kV) us->ItemsAre (K3 P w) ks us
 |[],_,r=>by rw[map_nil]at r;cases r;exact .nil
 |k::ks,_,r=>by
  rw[map_cons]at r;cases r with
  |cons h t=>exact .cons (fJ h) (sH t)
abbrev KT(H:Hp):List (List A4×V)->List (List A4×Addr×Value)->Prop:=Paired λp q=>p.1=q.1/\H q.2.1=some (.tup (p.1.map kV))/\RelV p.2 q.2.2
theorem KT.val{H:Hp}{kvs:List (List A4×V)}{xs:List (List A4×Addr×Value)}(r:KT H kvs xs)(k:List A4):RelO (K8 kvs k) ((atKey xs k).map (·.2)):=by
 induction r with
 |nil=>exact True.intro
 |@cons p q ps qs h t ih=>
  obtain⟨h1,_,h2⟩:=h;by_cases e:p.1=k
  ·have e':q.1=k:=h1.symm.trans e
   have b:atKey (q::qs) k=some q.2:=by simp[atKey,find?_cons,e']
   rw[jH e,b];exact h2
  ·have e':¬q.1=k:=λz=>e (h1.trans z)
   have b:atKey (q::qs) k=atKey qs k:=by simp[atKey,find?_cons,e']
   rw[jI e,b];exact ih
theorem KT.repl{H:Hp}{kvs:List (List A4×V)}{xs:List (List A4×Addr×Value)}(r:KT H kvs xs)(k:List A4){y:V}{u:Value}(ry:RelV y u):
  KT H (kvs.map λkv=>if kv.1=k then(kv.1,y)else kv) (xs.map (putAt k u)):=by
 induction r with
 |nil=>exact .nil
 |@cons p q ps qs h t ih=>
  rw[map_cons,map_cons];refine .cons ?_ ih;obtain⟨h1,h2,h3⟩:=h;unfold putAt;by_cases e:p.1=k
  ·rw[if_pos e,if_pos (h1.symm.trans e)];exact⟨h1,h2,ry⟩
  ·rw[if_neg e,if_neg (λz=>e (h1.trans z))];exact⟨h1,h2,h3⟩
theorem KT.put{H:Hp}{kvs:List (List A4×V)}{xs:List (List A4×Addr×Value)}(r:KT H kvs xs)(k:List A4){b:Addr}{y:V}{u:Value}(hb:H b=some (.tup (k.map kV)))(ry:RelV y u):
  KT H (G8 kvs k y) (storedH xs k b u):=by
 have e:(kvs.any λkv=>decide (kv.1=k))=(atKey xs k).isSome:=by
  rw[fH,(r.val k).isSome_eq,isSome_map]
 unfold G8 storedH;rw[e];by_cases q:(atKey xs k).isSome=true
 ·rw[if_pos q,if_pos q];exact r.repl k ry
 ·rw[if_neg q,if_neg q];exact Paired.snoc r ⟨rfl,hb,ry⟩
theorem KT.keeps{H H':Hp}{kvs:List (List A4×V)}{xs:List (List A4×Addr×Value)}(r:KT H kvs xs)(ht:∀b ys,H b=some (.tup ys)->H' b=some (.tup ys)):KT H' kvs xs:=
 Paired.mapP r λ_ _ z=>⟨z.1,ht _ _ z.2.1,z.2.2⟩
section
variable{P:Program}{w:World}{H:Hp}{h:Heap}{a:Addr}
theorem sI{u:HO}(ok:HOk P w H h)(e:Rd H a u):ObjOk P w H h a u:=e.ok ok
theorem fM{kvs:List (A4×V)}(ok:HOk P w H h)(e:Rd H a (.dK kvs)):kvs.length<=sizeLine/\(a==sysModules)=false/\∃vs,KV kvs vs/\h.DictOf (K3 P w) a vs:=
 show ObjOk P w H h a (.dK kvs)from sI ok e
theorem T8{kvs:List (A4×V)}(ok:HOk P w H h)(e:H a=some (.dK kvs)):kvs.length<=sizeLine/\(a==sysModules)=false/\∃vs,KV kvs vs/\h.DictOf (K3 P w) a vs:=fM ok (.inl e)
theorem jK{ks:List A4}(ok:HOk P w H h)(e:H a=some (.tup (ks.map kV))):(tupleKind (K3 P w)).is h ks a:=by
 obtain⟨_,its,r,o,h1,h2,n,h3⟩:=(show ObjOk P w H h a (.tup (ks.map kV))from ok a _ e);exact⟨o,its.toArray,n,h1,h2,h3,by simpa using sH r⟩
theorem jL{kvs:List (List A4×V)}(ok:HOk P w H h)(e:Rd H a (.dT kvs)):kvs.length<=sizeLine/\(a==sysModules)=false/\
  ∃xs,KT H kvs xs/\h.DictOfH (tupleKind (K3 P w)) a xs:=by
 obtain⟨z,y,xs,r,o,es,ep,h1,h2,h3,h4,h5⟩:=(show ObjOk P w H h a (.dT kvs)from sI ok e);refine⟨z,y,xs,r,o,es,ep,h1,h2,h3,h4,λx hx=>?_,h5⟩;have all:∀{l:List (List A4×V)}{m:List (List A4×Addr×Value)},KT H l m->∀x∈m,(tupleKind (K3 P w)).is h x.1 x.2.1:=by
  intro l m q
  induction q with
  |nil=>intro x hx;exact nomatch hx
  |@cons p q ps qs hq t ih=>
   intro x hx;rcases mem_cons.mp hx with e|hx
   ·subst e
    exact jK ok (by rw[←hq.1];exact hq.2.1)
   ·exact ih x hx
 exact all r x hx
theorem CS{kvs:List (List A4×V)}(ok:HOk P w H h)(e:H a=some (.dT kvs)):kvs.length<=sizeLine/\(a==sysModules)=false/\
  ∃xs,KT H kvs xs/\h.DictOfH (tupleKind (K3 P w)) a xs:=jL ok (.inl e)
end
def DGet(H:Hp)(a:Addr)(y:V)(r:Option V):Prop:=
 (∃kvs k,Rd H a (.dK kvs)/\y=kV k/\r=K8 kvs k)∨∃kvs k b,Rd H a (.dT kvs)/\y=.ref b/\H b=some (.tup (k.map kV))/\r=K8 kvs k
def DPut(H:Hp)(a:Addr)(y v:V)(H':Hp):Prop:=
 (∃kvs k,H a=some (.dK kvs)/\y=kV k/\kvs.length<sizeLine/\H'=upd H a (.dK (G8 kvs k v)))∨
 ∃kvs k b,H a=some (.dT kvs)/\y=.ref b/\H b=some (.tup (k.map kV))/\kvs.length<sizeLine/\H'=upd H a (.dT (G8 kvs k v))
theorem DGet.k{H:Hp}{a:Addr}{kvs:List (A4×V)}{k:A4}(e:H a=some (.dK kvs)):DGet H a (kV k) (K8 kvs k):=.inl ⟨kvs,k,.inl e,rfl,rfl⟩
theorem DPut.k{H:Hp}{a:Addr}{kvs:List (A4×V)}{k:A4}{v:V}(e:H a=some (.dK kvs))(hl:kvs.length<sizeLine):DPut H a (kV k) v (upd H a (.dK (G8 kvs k v))):=.inl ⟨kvs,k,e,rfl,hl,rfl⟩
section
variable{X:Cx}{ζ:List (Addr×Obj)}{σ:St}{H:Hp}{s:Shared}{a:Addr}{y v:V}{u r:Value}{o:Option V}{A:Around}{E:Value->Shared->Prop}
theorem Inv.big(I:Inv X ζ σ H s):sysModules<s.heap.objs.size:=by
 have h:mainGlobals<s.heap.objs.size:=(I.mod.glob.keeps I.bk).lt;exact lt_trans (!3) h
theorem sJ{Q:Value->Shared->Prop}(hu:A.units+1<cLine)(I:Inv X ζ σ H s)(g:DGet H a y (some v))(ry:RelV y u)(h:∀w' s',Inv X ζ σ H s'->RelV v w'->Q w' s'):
  wpAny (model X.prog X.w) A (getItem (.ref a) u) Q E s:=by
 rcases g with⟨kvs,k,e,ey,l⟩|⟨kvs,k,b,e,ey,eb,l⟩
 ·subst ey
  obtain⟨z,hd,vs,rel,dd⟩:=fM I.hok e;obtain⟨w',hw,rw'⟩:=RelO.some_of (v:=v) (o:=valueAt vs k) (by rw[l];exact rel.val k);exact wpAny_getItem_of (fJ ry) dd.mapOf hw (h w' _ (I.tok _) rw')
 ·subst ey
  cases(show u=Value.ref b from ry);obtain⟨z,hd,xs,rel,dd⟩:=jL I.hok e;obtain⟨w',hw,rw'⟩:=RelO.some_of (v:=v) (o:=(atKey xs k).map (·.2)) (by rw[l];exact rel.val k);obtain⟨p,hp,hp2⟩:=Option.map_eq_some_iff.mp hw;refine wpAny_getItem_heap (tupleKind_room_in1 hu) (jK I.hok eb) dd hp ?_;rw[hp2];exact h w' _ (I.tok _) rw'
theorem jM{h':Heap}{t':Nat}{ob:HO}(I:Inv X ζ σ H s)(mu:cA (H a))(hs:Heap.SameBut a s.heap h')(he:∃q,h'.get? a=some q)(new:ObjOk X.prog X.w (upd H a ob) h' a ob):
  Inv X ζ σ (upd H a ob) {s with heap:=h',toks:=t'}:=
 I.write (x:=a) (e:=a) mu (.inl rfl) (λb q hb z=>(hs.2 b hb).trans z) he new
theorem sK{P:Program}{w:World}{H':Hp}{h':Heap}{kvs:List (A4×V)}{vs:List (A4×Value)}(z:kvs.length<=sizeLine)(hd:(a==sysModules)=false)(rel:KV kvs vs)(dd:h'.DictOf (K3 P w) a vs):
  ObjOk P w H' h' a (.dK kvs):=⟨z,hd,vs,rel,dd⟩
theorem CT{H':Hp}{Q:Unit->Shared->Prop}(hu:A.units+1<cLine)(I:Inv X ζ σ H s)(g:DPut H a y v H')(ry:RelV y u)(rv:RelV v r)(h:∀s',Inv X ζ σ H' s'->Q () s'):
  wpAny (model X.prog X.w) A (setItem (.ref a) u r) Q E s:=by
 rcases g with⟨kvs,k,e,ey,l,eH⟩|⟨kvs,k,b,e,ey,eb,l,eH⟩
 ·subst ey eH
  obtain⟨z,hd,vs,rel,dd⟩:=T8 I.hok e;have hz:vs.length<=sizeLine:=by rw[←rel.length];exact z
  have hl:(G8 kvs k v).length<=sizeLine:=by have:=jJ kvs k v;omega
  refine wpAny_setItem_pairs (hsz:=hz) (fJ ry) dd λh' dd' hs=>h _ ?_
  have he:∃q,h'.get? a=some q:=let⟨q,_,_,hq,_⟩:=dd';⟨q,hq⟩
  exact jM I (by rw[e];exact True.intro) hs he (sK hl hd (rel.put k rv) dd')
 ·subst ey eH
  cases(show u=Value.ref b from ry);obtain⟨z,hd,xs,rel,dd⟩:=CS I.hok e;have hz:xs.length<=sizeLine:=by rw[←Paired.length rel];exact z
  have hl:(G8 kvs k v).length<=sizeLine:=by have:=jJ kvs k v;omega
  refine wpAny_setItem_heap (hsz:=hz) (tupleKind_room_in1 hu) (jK I.hok eb) dd λh' dd' hs=>h _ ?_
  obtain⟨q,es,ep,hq,h2,h3,h4,_,h5⟩:=dd';refine jM I (by rw[e];exact True.intro) hs ⟨q,hq⟩ ⟨hl,hd,_,(rel.put k eb rv).keeps λc ys ec=>?_,q,es,ep,hq,h2,h3,h4,h5⟩;rw[A9 (U5 ec e (λz=>nomatch z))];exact ec
end
section
variable{X:Cx}{ζ:List (Addr×Obj)}{σ:St}{H:Hp}{s:Shared}{a:Addr}{kvs:List (A4×V)}{k:A4}{u:Value}{A:Around}{E:Value->Shared->Prop}
theorem CU{Q:Value->Shared->Prop}(I:Inv X ζ σ H s)(e:Rd H a (.dK kvs))(h:∀t s',Inv X ζ σ H s'->Q (.int kvs.length t) s'):wpAny (model X.prog X.w) A (call (.builtin "len") [.ref a]) Q E s:=by
 obtain⟨z,hd,vs,rel,dd⟩:=fM I.hok e;refine call_len_dict hd dd (by rw[←rel.length];rw[sizeLine_eq]at z;omega) ?_;rw[←rel.length];exact h _ _ (I.tok _)
end
def sM(i:Expr):Prop:=∀ov iv,subscripted i false ov iv=operate [ov,iv] (getItem ov iv)
theorem CV{prog:Program}{w:World}{A:Around}{E:Value->Shared->Prop}{s:Shared}{env:Env}{value slice:Expr}{pos:Pos}{T id:String}{Q:Value->Shared->Prop}
  (hl:typeLookup (.type T) "__getitem__"=pure (some (.builtin id))) (hs:sM slice)
  (h:wpAny (model prog w) A (eval value env) (λo s₁=>wpAny (model prog w) A (eval slice env) (λi s₂=>s₂.TypeIs o T/\wpAny (model prog w) A (getItem o i) Q E s₂) E s₁) E s):
  wpAny (model prog w) A (eval (.Subscript value slice pos) env) Q E s:=by
 refine Subscript_ (wpAny_mono h (λo s₁ h₁=>wpAny_mono h₁ (λi s₂ h₂=>?_) λ_ _ x=>x) λ_ _ x=>x);obtain⟨hT,h₂⟩:=h₂;unfold subscriptTail;refine wpAny_bind ?_;rw[getitemInPython_of_ne hT.not_modules];refine wpAny_bind (wpAny_specialOf hT hl ?_);have fin:wpAny (model prog w) A (subscripted slice false o i) (λr s₃=>wpAny (model prog w) A (letTemporaryGo value o r >>= λ_=>pure r) Q E s₃) E s₂:=by
  rw[hs o i];exact wpAny_operating (wpAny_mono h₂ (λr s₃ h₃=>wpAny_bind (wpAny_letTemporaryGo (wpAny_pure h₃))) λ_ _ x=>x)
 first
  |exact wpAny_pure (wpAny_bind fin)
  |exact wpAny_bind (wpAny_pure (wpAny_bind fin))
  |exact wpAny_bind fin
theorem sN{X:Cx}{ζ:List (Addr×Obj)}{σ:St}{H:Hp}{s:Shared}{a:Addr}{y:V}{o:Option V}(I:Inv X ζ σ H s)(g:DGet H a y o):s.TypeIs (.ref a) "dict":=by
 rcases g with⟨kvs,k,e,_,_⟩|⟨kvs,k,b,e,_,_,_⟩
 ·obtain⟨_,_,vs,_,dd⟩:=fM I.hok e
  exact dd.typeIs
 ·obtain⟨_,_,xs,_,dd⟩:=jL I.hok e
  exact dd.typeIs
def CW(td ty:TE):TE:=fun σ H Q=>td σ H λx H1=>ty σ H1 λy H2=>∃a v,x=.ref a/\DGet H2 a y (some v)/\Q v H2
section
variable{X:Cx}{o i e value:Expr}{pos pos' tpos:Pos}{td ty tv:TE}
theorem CY(hu:X.A.units+1<cLine)(ho:PE X o td)(hi:PE X i ty)(hs:sM i):PE X (.Subscript o i pos) (CW td ty):=by
 intro ζ s σ H Q I h;refine CV PySem.F.slot_dict_getitem.lookup hs (A7 (ho ζ s σ H _ I h) λu s1 ⟨x,H1,I1,rx,q1⟩=>A7 (hi ζ s1 σ H1 _ I1 q1) λiv s2 h9=>?_);obtain⟨y,H2,I2,ry,a,v,ex,g,q2⟩:=h9;subst ex;obtain rfl:u=Value.ref a:=rx;exact⟨sN I2 g,sJ hu I2 g ry λw' s3 I3 rw'=>⟨v,H2,I3,rw',q2⟩⟩
end
theorem sO{P:Program}{w:World}{H:Hp}(h:Heap)(hb:sysModules<h.objs.size):ObjOk P w H (h.push {cls:=.type "dict",data:=.dict #[]}) h.objs.size (.dK []):=
 ⟨zero_le _,beq_eq_false_iff_ne.mpr (Ne.symm (ne_of_lt hb)),[],.nil,Heap.DictOf.new h⟩
def sP:TE:=λ_ H Q=>∀p,H p=none->Q (.ref p) (upd H p (.dK []))
section
variable{X:Cx}{pos:Pos}
theorem CZ:PE X (.Dict [] [] pos) sP:=fun ζ s σ H Q I h=>
 wpAny_Dict_empty ⟨.ref s.heap.objs.size,_,I.laid (a:=s.heap.objs.size) (o:=.dK []) (t':=s.toks) (λ_ _ q=>Heap.get?_push_of_some _ q) (le_refl _) (sO s.heap I.big),rfl,h _ (I.hok.fresh (le_refl _))⟩
end
def jN:List (TE×TE)->St->Hp->(List (V×V)->Hp->Prop)->Prop
 |[],_,H,Q=>Q [] H
 |(tk,tv)::r,σ,H,Q=>tk σ H λx H1=>tv σ H1 λy H2=>jN r σ H2 λps H3=>Q ((x,y)::ps) H3
abbrev VV:List (V×V)->List (Value×Value)->Prop:=Paired λp q=>RelV p.1 q.1/\RelV p.2 q.2
def cM(X:Cx)(pos:Pos)(keys:List (Option Expr))(values:List Expr)(trs:List (TE×TE)):Prop:=
 ∀(ζ:List (Addr×Obj))(s:Shared)(σ:St)(H:Hp)(Q:List (V×V)->Hp->Prop),Inv X ζ σ H s->jN trs σ H Q->
  wpAny (model X.prog X.w) X.A (evalPairs (pairTrees keys values X.env pos)) (λvs s'=>∃ps H',Inv X ζ σ H' s'/\VV ps vs/\Q ps H') X.xe s
theorem Da{X:Cx}{pos:Pos}:cM X pos [] [] []:=fun ζ s σ H Q I h=>pairTrees_nil_walk ⟨[],H,I,.nil,h⟩
theorem Db{X:Cx}{pos:Pos}{k v:Expr}{ks:List (Option Expr)}{vs:List Expr}{tk tv:TE}{trs:List (TE×TE)}(hk:PE X k tk)(hv:PE X v tv)(hr:cM X pos ks vs trs):
  cM X pos (some k::ks) (v::vs) ((tk,tv)::trs):=fun ζ s σ H Q I h=>
 pairTrees_cons_walk (A7 (hk ζ s σ H _ I h) λu s1 ⟨x,H1,I1,rx,q1⟩=>A7 (hv ζ s1 σ H1 _ I1 q1) λw2 s2 ⟨y,H2,I2,ry,q2⟩=>
  A7 (hr ζ s2 σ H2 _ I2 q2) λws s3 ⟨ps,H3,I3,rel,q3⟩=>⟨(x,y)::ps,H3,I3,.cons ⟨rx,ry⟩ rel,q3⟩)
def W2(kvs more:List (A4×V)):List (A4×V):=more.foldl (λacc kv=>G8 acc kv.1 kv.2) kvs
theorem KV.merge:∀{more:List (A4×V)}{rs:List (A4×Value)}{kvs:List (A4×V)}{vs:List (A4×Value)},KV more rs->KV kvs vs->KV (W2 kvs more) (merged vs rs):=by
 intro more rs kvs vs r;unfold KV at r
 induction r generalizing kvs vs with
 |nil=>intro q;exact q
 |@cons p q ps qs h t ih=>
  intro r0;have e:KV (G8 kvs p.1 p.2) (stored vs q.1 q.2):=by
   have:=r0.put p.1 h.2;rw[←h.1];exact this
  exact ih e
theorem sQ:∀(more kvs:List (A4×V)),(W2 kvs more).length<=kvs.length+more.length
 |[],kvs=>by show kvs.length<=kvs.length+0;omega
 |p::r,kvs=>by
  have h1:=sQ r (G8 kvs p.1 p.2);have h2:=jJ kvs p.1 p.2;show(W2 (G8 kvs p.1 p.2) r).length<=_;rw[length_cons];omega
theorem sR{P:Program}{w:World}:∀{kvs:List (A4×V)}{ws:List (Value×Value)},VV (kvs.map λkv=>(kV kv.1,kv.2)) ws->∃rs,Carries (K3 P w) ws rs/\KV kvs rs
 |[],_,r=>by rw[map_nil]at r;cases r;exact⟨[],True.intro,.nil⟩
 |p::kvs,_,r=>by
  rw[map_cons]at r;cases r with
  |@cons a b as bs h t=>
   obtain⟨rs,c,q⟩:=sR (P:=P) (w:=w) t;obtain⟨b1,b2⟩:=b;exact⟨(p.1,b2)::rs,⟨fJ h.1,rfl,c⟩,.cons ⟨rfl,h.2⟩ q⟩
def sS(trs:List (TE×TE)):TE:=fun σ H Q=>∀p,H p=none->jN trs σ (upd H p (.dK [])) λps H2=>H2 p=some (.dK [])/\∃kvs:List (A4×V),ps=kvs.map (λkv=>(kV kv.1,kv.2))/\kvs.length<=15/\Q (.ref p) (upd H2 p (.dK (W2 [] kvs)))
theorem Dc{X:Cx}{pos:Pos}{keys:List (Option Expr)}{values:List Expr}{trs:List (TE×TE)}(h:cM X pos keys values trs)(hall:keys.all (·.isSome)=true)(hl:keys.length=values.length)(h0:keys≠[])
  (h15:keys.length<=15):PE X (.Dict keys values pos) (sS trs):=by
 intro ζ s σ H Q I q;have hn:=I.hok.fresh (le_refl s.heap.objs.size);have I1:=I.laid (a:=s.heap.objs.size) (o:=.dK []) (h':=s.heap.push {cls:=.type "dict",data:=.dict #[]}) (t':=s.toks) (λ_ _ q=>Heap.get?_push_of_some _ q) (le_refl _) (sO s.heap I.big);refine wpAny_Dict_walk (knd:=K3 X.prog X.w) hall hl h0 h15 (A7 (h ζ _ σ _ _ I1 (q _ hn)) λws s2 h9=>?_);obtain⟨ps,H2,I2,rel,e,kvs,ep,lk,q2⟩:=h9;subst ep;obtain⟨rs,c,rk⟩:=sR (P:=X.prog) (w:=X.w) rel;obtain⟨z,hd,vs0,r0,dd⟩:=T8 I2.hok e;cases r0;refine⟨rs,c,dd,λh' dd' hs=>⟨.ref s.heap.objs.size,_,?_,rfl,q2⟩⟩;have hz:(W2 [] kvs).length<=sizeLine:=by
  have h1:=sQ kvs [];rw[List.length_nil]at h1;rw[sizeLine_eq];omega
 have he:∃q,h'.get? s.heap.objs.size=some q:=let⟨q,_,_,hq,_⟩:=dd';⟨q,hq⟩
 exact jM I2 (by rw[e];exact True.intro) hs he (sK hz hd (rk.merge .nil) dd')
end L2
namespace L2
open PySem PySem.Spec PyProof.Rows
section
variable{X:Cx}
theorem Dd:CallR X (.builtin "len") (λxs H Q=>∃a kvs,xs=[V.ref a]/\H a=some (.dK kvs)/\Q (.int kvs.length) H):=by
 intro ζ s σ H xs us Q I r h;obtain⟨a,kvs,rfl,ha,q⟩:=h;obtain⟨u,rfl,ru⟩:=M3 r;cases ru;exact CU I (.inl ha) λt s' I'=>⟨.int kvs.length,H,I',⟨t,rfl⟩,q⟩
end
end L2
namespace L2
open PySem PySem.Spec PyProof.Rows
section
variable{κ:Type}[DecidableEq κ]
theorem De{kvs:List (κ×V)}{k:κ}{v:V}(h:K8 kvs k=some v):k∈kvs.map (·.1):=by
 have q:(kvs.any λkv=>decide (kv.1=k))=true:=by
  rw[fH,h]
  all_goals rfl
 obtain⟨p,hp,e⟩:=any_eq_true.mp q;exact mem_map.mpr ⟨p,hp,of_decide_eq_true e⟩
end
end L2
set_option maxHeartbeats 4000000
namespace Rg
open PySem PySem.Spec PyProof.Rows L2
theorem sT{α β:Type}{f:α->β->Sem (ForInStep β)}(g:α->β->β):
  ∀(l:List α)(b:β),(∀x∈l,∀c,f x c=pure (ForInStep.yield (g x c)))->forIn l b f=pure (l.foldl (λc x=>g x c) b)
 |[],b,_=>by rw[forIn_nil];rfl
 |x::r,b,h=>by
  rw[forIn_cons,h x mem_cons_self b,pure_bind];show forIn r (g x b) f=_;rw[sT g r (g x b) λy hy c=>h y (mem_cons_of_mem _ hy) c];rfl
def R7(cells:List (Str×Addr))(c:List (Str×Addr))(p:Str×NameKind):List (Str×Addr):=
 if(p.2==NameKind.free)=true then(p.1,(cells.lookup p.1).getD 0)::c else c
def aQ(cells:List (Str×Addr))(names:List (Str×NameKind)):List (Str×Addr):=names.foldl (R7 cells) []
theorem Df{scope:Scope}{env:Env}(h:∀p∈scope.names,p.2=.free->∃c,env.cells.lookup p.1=some c):
  closureFor scope env=pure (aQ env.cells scope.names):=by
 unfold closureFor aQ;dsimp only;rw[sT (λp c=>R7 env.cells c p) scope.names [] (λp hp c=>?_)]
 ·rw[pure_bind]
 ·obtain⟨n,k⟩:=p
  unfold R7;by_cases hk:k=NameKind.free
  ·subst hk
   obtain⟨a,ha⟩:=h _ hp rfl;have e:cellOf env n=pure a:=by unfold cellOf;rw[ha]
   have hb:(NameKind.free==NameKind.free)=true:=by decide
   simp only[hb,if_true,e,pure_bind,ha,getD_some]
  ·have hb:(k==NameKind.free)=false:=by
    cases k<;>first|rfl|exact absurd rfl hk
   simp only[hb,Bool.false_eq_true,if_false]
theorem sU{k:NameKind}(h:(k==NameKind.free)=true):k=.free:=by
 cases k<;>first|rfl|cases h
theorem sV{cells:List (Str×Addr)}:∀(names:List (Str×NameKind))(acc:List (Str×Addr)),(∀p∈names,p.2=.free->∃c,cells.lookup p.1=some c)->
  (∀y c,acc.lookup y=some c->cells.lookup y=some c)->∀y c,(names.foldl (R7 cells) acc).lookup y=some c->cells.lookup y=some c
 |[],_,_,ha,y,c,h=>ha y c h
 |p::r,acc,hn,ha,y,c,h=>by
  refine sV r (R7 cells acc p) (λq hq=>hn q (mem_cons_of_mem _ hq)) (λz d hz=>?_) y c h;unfold R7 at hz;by_cases hk:(p.2==NameKind.free)=true
  ·rw[if_pos hk]at hz
   obtain⟨a,e⟩:=hn p mem_cons_self (sU hk);rw[lookup_cons]at hz;cases hb:z==p.1 with
   |true=>
    rw[hb]at hz;have ez:z=p.1:=eq_of_beq hb;rw[e]at hz;subst ez;rw[e];exact hz
   |false=>rw[hb]at hz;exact ha z d hz
  ·rw[if_neg hk]at hz
   exact ha z d hz
theorem jO{cells:List (Str×Addr)}{y:Str}:∀(names:List (Str×NameKind))(acc:List (Str×Addr)),((y,NameKind.free)∈names∨(acc.lookup y).isSome=true)->((names.foldl (R7 cells) acc).lookup y).isSome=true
 |[],_,h=>by
  rcases h with h|h
  ·exact absurd h (!2)
  ·exact h
 |p::r,acc,h=>by
  refine jO r (R7 cells acc p) ?_;have key:(acc.lookup y).isSome=true->((R7 cells acc p).lookup y).isSome=true:=λha=>by
   unfold R7;split
   ·rw[lookup_cons]
    cases hb:y==p.1 with
    |true=>rfl
    |false=>exact ha
   ·exact ha
  rcases h with h|h
  ·rcases mem_cons.mp h with e|h
   ·refine .inr ?_
    rw[←e];unfold R7;rw[if_pos (show(NameKind.free==NameKind.free)=true by decide),lookup_cons];simp
   ·exact .inl h
  ·exact .inr (key h)
theorem jP{env:Env}{k:NameKind}{y:Str}:∀{names:List (Str×NameKind)},names.lookup y=some k->
  (names.map λ(n,k)=>if(k==NameKind.free&&env.scope.kind==.function&&env.kindOf n==some .cell)then(n,NameKind.cell)else(n,k)).lookup y
   = some (if(k==NameKind.free&&env.scope.kind==.function&&env.kindOf y==some .cell)=true then NameKind.cell else k)
 |[],h=>by simp at h
 |(n,j)::r,h=>by
  rw[lookup_cons]at h;rw[map_cons];cases hb:y==n with
  |true=>
   rw[hb]at h;have e:y=n:=eq_of_beq hb;subst e;have ej:j=k:=Option.some.inj h;subst ej;by_cases hc:(j==NameKind.free&&env.scope.kind==.function&&env.kindOf y==some .cell)=true
   ·simp only[hc,if_true,lookup_cons,hb]
   ·simp only[hc,lookup_cons,hb,if_false,Bool.false_eq_true]
  |false=>
   rw[hb]at h;have ih:=jP (env:=env) (names:=r) h;by_cases hc:(j==NameKind.free&&env.scope.kind==.function&&env.kindOf n==some .cell)=true
   ·simp only[hc,if_true,lookup_cons,hb];exact ih
   ·simp only[hc,lookup_cons,hb,if_false,Bool.false_eq_true];exact ih
theorem sW{env:Env}{y:Str}:∀{names:List (Str×NameKind)},names.lookup y=none->
  (names.map λ(n,k)=>if(k==NameKind.free&&env.scope.kind==.function&&env.kindOf n==some .cell)then(n,NameKind.cell)else(n,k)).lookup y=none
 |[],_=>rfl
 |(n,j)::r,h=>by
  rw[lookup_cons]at h;rw[map_cons];cases hb:y==n with
  |true=>rw[hb]at h;cases h
  |false=>
   rw[hb]at h;have ih:=sW (env:=env) (names:=r) h;by_cases hc:(j==NameKind.free&&env.scope.kind==.function&&env.kindOf n==some .cell)=true
   ·simp only[hc,if_true,lookup_cons,hb];exact ih
   ·simp only[hc,lookup_cons,hb,if_false,Bool.false_eq_true];exact ih
theorem Dg{scope:Scope}{env:Env}{y:Str}(h:scope.names.lookup y=some .free):(relabel scope env).names.lookup y=some .cell∨(relabel scope env).names.lookup y=some .free:=by
 have q:=jP (env:=env) h;unfold relabel;by_cases hc:(NameKind.free==NameKind.free&&env.scope.kind==.function&&env.kindOf y==some .cell)=true
 ·exact .inl (q.trans (by rw[if_pos hc]))
 ·exact .inr (q.trans (by rw[if_neg hc]))
theorem Dh{scope:Scope}{env:Env}{y:Str}(hn:∀z∈scope.names,z.2≠.cell)(h:(relabel scope env).names.lookup y=some .cell∨(relabel scope env).names.lookup y=some .free):scope.names.lookup y=some .free:=by
 unfold relabel at h;cases e:scope.names.lookup y with
 |none=>
  have q:=sW (env:=env) e;rcases h with h|h
  ·exact absurd (q.symm.trans h) (!2)
  ·exact absurd (q.symm.trans h) (!2)
 |some k=>
  have q:=jP (env:=env) e;have hk:k≠.cell:=hn _ (PySem.mem_of_lookup e);by_cases hc:(k==NameKind.free&&env.scope.kind==.function&&env.kindOf y==some .cell)=true
  ·have:(k==NameKind.free)=true:=by
    rw[Bool.and_eq_true,Bool.and_eq_true]at hc;exact hc.1.1
   rw[sU this]
  ·rw[if_neg hc]at q
   rcases h with h|h
   ·exact absurd (Option.some.inj (q.symm.trans h)) hk
   ·rw[Option.some.inj (q.symm.trans h)]
def jQ(x:Str)(fr:List (Str×Nat)):List Str:=x::fr.map (·.1)
def jR(v:Option V)(fr:List (Str×Nat))(σ:L2.St):L2.St:=v::fr.map λp=>(σ[p.2]?).getD none
def Di(X:Cx)(x:Str)(fr:List (Str×Nat))(scope:Scope)(fp:List Addr)(C:Addr)(s:Shared)(H:Hp):Cx where
 prog:=X.prog
 w:=X.w
 K:=X.K
 mg:=X.mg
 base:=X.base
 A:=X.A
 N:=jQ x fr
 s₀:=s
 H₀:=H
 env:=compEnvC scope (aQ X.env.cells scope.names) C X.env
 outer:=X.stack
 stack:=X.stack
 ex:=fp
 fn:=λ_=>false
 calm:=X.calm
 pn:=[]
 xe:=λ_ _=>False
structure LcOk(X:Cx)(x:Str)(fr:List (Str×Nat))(scope:Scope):Prop where
 nocell:∀y∈scope.names,y.2≠.cell
 kind:scope.kind=.function
 nm:∀y∈scope.names,y.2=.local->scope.names.lookup y.1=some .local
 hx:scope.names.lookup x=some .local
 nd:(jQ x fr).Nodup
 free:∀y∈scope.names,y.2=.free->X.env.scope.names.lookup y.1=some .cell∨X.env.scope.names.lookup y.1=some .free
 fr:∀p∈fr,X.N[p.2]?=some p.1/\scope.names.lookup p.1=some .free
def Dj(fr:List (Str×Nat))(wi:TI)(te:TE):TE:=fun σ H Q=>wi σ H λJ H1=>∃W:Nat->Nat->List V->Hp->Prop,(∃m,W 0 m [] H1)/\∀i m ys H,W i m ys H->
 (J.stop i H/\ys.length<=sizeLine/\∀p,H p=none->Q (.ref p) (upd H p (.lst ys)))∨
 (J.go i H/\ys.length<sizeLine/\∃N:V->Hp->Prop,(∀y H2,N y H2->∃m',m'<m/\W (i+1) m' (ys++[y]) H2)/\∀v H',J.yld i H v H'->te (jR (some v) fr σ) H' N)
section
variable{prog:Program}{w:World}{A:Around}{R:Result->Shared->Prop}{s:Shared}
theorem Dk{elt target iter:Expr}{scope:Scope}{pos:Pos}{it acc:Value}{env:Env}(I:Nat->Shared->Prop)
  (turn:∀n t,I n t->wpAny (model prog w) A (pyNext it) (λr s₁=>match r with
   |none=>R (.ok .next) s₁
   |some v=>wpAny (model prog w) A (letOwnedTupleGo target it v) (λ_ s₂=>wpAny (model prog w) A (assign target env v) (λ_ s₃=>wpAny (model prog w) A (eval elt env) (λy s₄=>
     wpAny (model prog w) A (call (.builtin "list.append") [acc,y]) (λ_ s₅=>∃m,m<n/\I m s₅) (λ_ _=>False) s₄) (λ_ _=>False) s₃) (λ_ _=>False) s₂) (λ_ _=>False) s₁) (λ_ _=>False) t)
  (n:Nat) (h:I n s):codeAny (model prog w) A (.compLoop (.ListComp elt [⟨target,iter,[],0⟩] scope pos) 0 it acc env) R s:=by
 refine codeAny_loop rfl I (λk t hI=>?_) n h;show wpAny _ _ ((compTurn (.ListComp elt [⟨target,iter,[],0⟩] scope pos) 0 it acc env).onRaise (λx=>do noteFrame x env;theTreesLotGoes x)) _ _ t;refine wpAny_noted ?_;rw[compTurn_list1];refine wpAny_bind (wpAny_standAt (wpAny_bind (wpAny_mono (turn k t hI) (λr s₁ h₁=>?_) λ_ _ z=>z.elim)));cases r with
 |none=>exact wpAny_pure h₁
 |some v=>
  refine wpAny_bind (wpAny_mono h₁ (λ_ s₂ h₂=>?_) λ_ _ z=>z.elim);refine wpAny_bind (wpAny_mono h₂ (λ_ s₃ h₃=>?_) λ_ _ z=>z.elim);refine wpAny_bind (wpAny_bind (wpAny_mono h₃ (λy s₄ h₄=>?_) λ_ _ z=>z.elim));refine wpAny_bind (wpAny_mono h₄ (λ_ s₅ h₅=>?_) λ_ _ z=>z.elim);exact wpAny_pure (wpAny_pure ⟨rfl,h₅⟩)
end
theorem sX{fs ex:List Addr}{H H':Hp}{h h1 h2:Heap}{C D:Addr}{o:HO}(u:Un fs ex H H' h h1)(hC:h.objs.size<=C)(hD:h.objs.size<=D)(hn:H' D=none)(sb:Heap.SameBut C h1 h2):Un fs ex H (upd H' D o) h h2 where
 keep:=λb ob q n hf hx=>(sb.2 b (ne_of_lt (lt_of_lt_of_le (Heap.lt_size q) hC))).trans (u.keep b ob q n hf hx)
 slot:=λb ob q n hf hx=>by
  obtain⟨sl,e⟩:=u.slot b ob q n hf hx;exact⟨sl,(sb.2 b (ne_of_lt (lt_of_lt_of_le (Heap.lt_size q) hC))).trans e⟩
 free:=λb ob q n hx=>by
  rw[A9 (ne_of_lt (lt_of_lt_of_le (Heap.lt_size q) hD))];exact u.free b ob q n hx
 there:=λb ob q hx=>by
  obtain⟨o',e⟩:=u.there b ob q hx;exact⟨o',(sb.2 b (ne_of_lt (lt_of_lt_of_le (Heap.lt_size q) hC))).trans e⟩
 tups:=λb xs q=>by
  have z:=u.tups b xs q;rw[A9 (E6 z hn)];exact z
 frzs:=λb ob v q=>by
  have z:=u.frzs b ob v q;rw[A9 (E6 z hn)];exact z
 tbls:=λb ps q=>by
  obtain⟨more,z⟩:=u.tbls b ps q;exact⟨more,by rw[A9 (E6 z hn)];exact z⟩
end Rg
namespace Rg
open PySem PySem.W PyProof.Rows
def KOk{α:Type}(n:Nat)(P:α->Prop):KasT α->Prop
 |.ret a=>P a
 |.ask i j k=>i<n/\j<n/\∀b,KOk n P (k b)
theorem KOk.bind{α β:Type}{n:Nat}{P:β->Prop}{f:α->KasT β}:∀{t:KasT α},KOk n (λa=>KOk n P (f a)) t->KOk n P (t.bind f)
 |.ret _,h=>h
 |.ask _ _ k,h=>⟨h.1,h.2.1,λb=>KOk.bind (t:=k b) (h.2.2 b)⟩
theorem KOk.imp{α:Type}{n:Nat}{P P':α->Prop}(hp:∀a,P a->P' a):∀{t:KasT α},KOk n P t->KOk n P' t
 |.ret _,h=>hp _ h
 |.ask _ _ k,h=>⟨h.1,h.2.1,λb=>KOk.imp hp (t:=k b) (h.2.2 b)⟩
theorem KOk.ite{α:Type}{n:Nat}{P:α->Prop}{c:Prop}[Decidable c]{t u:KasT α}(h1:KOk n P t)(h2:KOk n P u):KOk n P (if c then t else u):=by
 split
 ·exact h1
 ·exact h2
def Pm(n:Nat)(p:Array Nat):Prop:=p.toList.Perm (List.range n)
theorem Pm.lt{n:Nat}{p:Array Nat}(h:Pm n p)(hn:0<n)(i:Nat):p.getD i 0<n:=by
 by_cases hi:i<p.size
 ·have e:p.getD i 0=p[i]:=by simp[Array.getD,hi]
  rw[e];exact mem_range.mp (h.mem_iff.mp (!2))
 ·have e:p.getD i 0=0:=by simp[Array.getD,hi]
  rw[e];exact hn
theorem Pm.rev{n:Nat}{p:Array Nat}(h:Pm n p)(i j:Nat):Pm n (kas_rev p i j):=(Array.perm_iff_toList_perm.mp (mirror_perm p i j ((j-i) / 2))).trans h
theorem Pm.bub{n:Nat}{p:Array Nat}(h:Pm n p)(i j:Nat):Pm n (bubble p i j):=(Array.perm_iff_toList_perm.mp (bubble_perm p i j)).trans h
theorem Pm.start(n:Nat):Pm n (toArray (List.range n)):=by
 unfold Pm;exact List.Perm.refl _
section
variable{n:Nat}{p:Array Nat}
theorem jS(h:Pm n p)(hn:0<n):∀f m:Nat,KOk n (λ_=>True) (kas_asc p f m)
 |0,_=>trivial
 |f+1,m=>⟨h.lt hn _,h.lt hn _,λb=>KOk.ite trivial (jS h hn f (m+1))⟩
theorem fN(hn:0<n):∀(f:Nat)(p:Array Nat)(m q:Nat),Pm n p->KOk n (λr=>Pm n r.1) (kas_desc f p m q)
 |0,_,_,_,h=>h
 |f+1,p,m,q,h=>⟨h.lt hn _,h.lt hn _,λb=>KOk.ite (KOk.ite (fN hn f _ _ _ (h.rev _ _)) (fN hn f _ _ _ h)) ⟨h.lt hn _,h.lt hn _,λd=>KOk.ite h (fN hn f _ _ _ h)⟩⟩
theorem sY(h:Pm n p)(hn:0<n)(k m:Nat):KOk n (λr=>Pm n r.2) (kas_tail3 k m p):=
 KOk.bind (KOk.imp (λ_ _=>h.rev _ _) (jS (h.rev 0 k) hn _ _))
theorem sZ(h:Pm n p)(hn:0<n)(k m:Nat):KOk n (λr=>Pm n r.2) (kas_descPart k m p):=
 KOk.bind (KOk.imp (λr hr=>KOk.ite (sY (hr.rev _ _) hn _ _) (sY hr hn _ _)) (fN hn _ p _ _ h))
theorem Dl(h:Pm n p)(hn:0<n)(m:Nat):KOk n (λr=>Pm n r.2) (kas_count m p):=by
 unfold kas_count;refine KOk.bind (KOk.imp (λk _=>?_) (jS h hn _ _));refine KOk.ite ?_ (KOk.ite ?_ (sZ h hn _ _))
 ·exact h
 ·refine⟨h.lt hn _,h.lt hn _,λb=>KOk.ite ?_ (sZ (h.rev _ _) hn _ _)⟩
  exact h
theorem jT(h:Pm n p)(hn:0<n)(k:Nat):∀f l r:Nat,KOk n (λ_=>True) (kas_place p k f l r)
 |0,_,_=>trivial
 |f+1,l,r=>KOk.ite trivial ⟨h.lt hn _,h.lt hn _,λb=>KOk.ite (jT h hn k f _ _) (jT h hn k f _ _)⟩
theorem tD(hn:0<n):∀(f:Nat)(p:Array Nat)(k:Nat),Pm n p->KOk n (Pm n) (kas_bin f p k)
 |0,_,_,h=>h
 |f+1,p,k,h=>KOk.bind (KOk.imp (λl _=>tD hn f _ _ (h.bub _ _)) (jT h hn k k 0 k))
theorem Dm(hn:0<n):KOk n (Pm n) (kas_sort n):=by
 unfold kas_sort;refine KOk.bind (KOk.imp (λr hr=>?_) (Dl (Pm.start n) hn n));refine KOk.ite (tD hn _ _ _ hr) ?_;exact hr
end
end Rg
namespace Rg
open PySem L2
mutual
inductive Th where
 |num (i:Int)
 |word (x:Str)
 |row (l:Ts)
 |dic (l:Ts)
inductive Ts where
 |nil
 |cons (k:Str) (t:Th) (r:Ts)
end
mutual
def Th.size:Th->Nat
 |.num _=>1
 |.word _=>1
 |.row l=>l.size+1
 |.dic l=>l.size+1
def Ts.size:Ts->Nat
 |.nil=>0
 |.cons _ t r=>t.size+r.size
end
def Ts.len:Ts->Nat
 |.nil=>0
 |.cons _ _ r=>r.len+1
def Ts.keys:Ts->List Str
 |.nil=>[]
 |.cons k _ r=>k::r.keys
def Ts.put(k:Str)(t:Th):Ts->Ts
 |.nil=>.cons k t .nil
 |.cons j u r=>if j=k then .cons j t r else .cons j u (r.put k t)
def Ts.app:Ts->Ts->Ts
 |.nil,m=>m
 |.cons k t r,m=>.cons k t (r.app m)
mutual
def Rep(H:Hp):Th->V->Prop
 |.num i,v=>v=.int i
 |.word x,v=>v=.str x
 |.row l,v=>∃a xs,v=.ref a/\H a=some (.lst xs)/\RepR H l xs
 |.dic l,v=>∃a kvs,v=.ref a/\H a=some (.dK kvs)/\RepD H l kvs
def RepR(H:Hp):Ts->List V->Prop
 |.nil,xs=>xs=[]
 |.cons _ t r,xs=>∃y ys,xs=y::ys/\Rep H t y/\RepR H r ys
def RepD(H:Hp):Ts->List (A4×V)->Prop
 |.nil,kvs=>kvs=[]
 |.cons k t r,kvs=>∃y ys,kvs=(Sum.inr k,y)::ys/\Rep H t y/\RepD H r ys
end
mutual
theorem Rep.mono{H H':Hp}(e:Same H H'):∀{t:Th}{v:V},Rep H t v->Rep H' t v
 |.num _,_,h=>h
 |.word _,_,h=>h
 |.row l,_,h=>by
  obtain⟨a,xs,h1,h2,h3⟩:=(h:∃a xs,_=V.ref a/\H a=some (.lst xs)/\RepR H l xs);exact⟨a,xs,h1,e _ _ h2,RepR.mono e h3⟩
 |.dic l,_,h=>by
  obtain⟨a,kvs,h1,h2,h3⟩:=(h:∃a kvs,_=V.ref a/\H a=some (.dK kvs)/\RepD H l kvs);exact⟨a,kvs,h1,e _ _ h2,RepD.mono e h3⟩
theorem RepR.mono{H H':Hp}(e:Same H H'):∀{l:Ts}{xs:List V},RepR H l xs->RepR H' l xs
 |.nil,_,h=>h
 |.cons _ t r,_,h=>by
  obtain⟨y,ys,h1,h2,h3⟩:=(h:∃y ys,_=y::ys/\Rep H t y/\RepR H r ys);exact⟨y,ys,h1,Rep.mono e h2,RepR.mono e h3⟩
theorem RepD.mono{H H':Hp}(e:Same H H'):∀{l:Ts}{kvs:List (A4×V)},RepD H l kvs->RepD H' l kvs
 |.nil,_,h=>h
 |.cons _ t r,_,h=>by
  obtain⟨y,ys,h1,h2,h3⟩:=(h:∃y ys,_=(Sum.inr _,y)::ys/\Rep H t y/\RepD H r ys);exact⟨y,ys,h1,Rep.mono e h2,RepD.mono e h3⟩
end
mutual
theorem Rep.inj{H:Hp}:∀{t u:Th}{v:V},Rep H t v->Rep H u v->t.size=u.size
 |.num _,.num _,_,_,_=>rfl
 |.num _,.word _,_,_,_=>rfl
 |.word _,.num _,_,_,_=>rfl
 |.word _,.word _,_,_,_=>rfl
 |.num i,.row l,v,h,h'=>by
  obtain⟨a,xs,h1,_⟩:=(h':∃a xs,v=V.ref a/\H a=some (.lst xs)/\RepR H l xs);rw[(h:v=.int i)]at h1;cases h1
 |.num i,.dic l,v,h,h'=>by
  obtain⟨a,xs,h1,_⟩:=(h':∃a xs,v=V.ref a/\H a=some (.dK xs)/\RepD H l xs);rw[(h:v=.int i)]at h1;cases h1
 |.word x,.row l,v,h,h'=>by
  obtain⟨a,xs,h1,_⟩:=(h':∃a xs,v=V.ref a/\H a=some (.lst xs)/\RepR H l xs);rw[(h:v=.str x)]at h1;cases h1
 |.word x,.dic l,v,h,h'=>by
  obtain⟨a,xs,h1,_⟩:=(h':∃a xs,v=V.ref a/\H a=some (.dK xs)/\RepD H l xs);rw[(h:v=.str x)]at h1;cases h1
 |.row l,.num i,v,h,h'=>by
  obtain⟨a,xs,h1,_⟩:=(h:∃a xs,v=V.ref a/\H a=some (.lst xs)/\RepR H l xs);rw[(h':v=.int i)]at h1;cases h1
 |.row l,.word x,v,h,h'=>by
  obtain⟨a,xs,h1,_⟩:=(h:∃a xs,v=V.ref a/\H a=some (.lst xs)/\RepR H l xs);rw[(h':v=.str x)]at h1;cases h1
 |.dic l,.num i,v,h,h'=>by
  obtain⟨a,xs,h1,_⟩:=(h:∃a xs,v=V.ref a/\H a=some (.dK xs)/\RepD H l xs);rw[(h':v=.int i)]at h1;cases h1
 |.dic l,.word x,v,h,h'=>by
  obtain⟨a,xs,h1,_⟩:=(h:∃a xs,v=V.ref a/\H a=some (.dK xs)/\RepD H l xs);rw[(h':v=.str x)]at h1;cases h1
 |.row l,.row m,v,h,h'=>by
  obtain⟨a,xs,h1,h2,h3⟩:=(h:∃a xs,v=V.ref a/\H a=some (.lst xs)/\RepR H l xs);obtain⟨b,ys,g1,g2,g3⟩:=(h':∃a xs,v=V.ref a/\H a=some (.lst xs)/\RepR H m xs);rw[h1]at g1;cases g1;rw[h2]at g2;cases g2;show l.size+1=m.size+1;rw[RepR.inj h3 g3]
 |.row l,.dic m,v,h,h'=>by
  obtain⟨a,xs,h1,h2,h3⟩:=(h:∃a xs,v=V.ref a/\H a=some (.lst xs)/\RepR H l xs);obtain⟨b,ys,g1,g2,g3⟩:=(h':∃a xs,v=V.ref a/\H a=some (.dK xs)/\RepD H m xs);rw[h1]at g1;cases g1;rw[h2]at g2;cases g2
 |.dic l,.row m,v,h,h'=>by
  obtain⟨a,xs,h1,h2,h3⟩:=(h:∃a xs,v=V.ref a/\H a=some (.dK xs)/\RepD H l xs);obtain⟨b,ys,g1,g2,g3⟩:=(h':∃a xs,v=V.ref a/\H a=some (.lst xs)/\RepR H m xs);rw[h1]at g1;cases g1;rw[h2]at g2;cases g2
 |.dic l,.dic m,v,h,h'=>by
  obtain⟨a,xs,h1,h2,h3⟩:=(h:∃a xs,v=V.ref a/\H a=some (.dK xs)/\RepD H l xs);obtain⟨b,ys,g1,g2,g3⟩:=(h':∃a xs,v=V.ref a/\H a=some (.dK xs)/\RepD H m xs);rw[h1]at g1;cases g1;rw[h2]at g2;cases g2;show l.size+1=m.size+1;rw[RepD.inj h3 g3]
theorem RepR.inj{H:Hp}:∀{l m:Ts}{xs:List V},RepR H l xs->RepR H m xs->l.size=m.size
 |.nil,.nil,_,_,_=>rfl
 |.nil,.cons k t r,xs,h,h'=>by
  obtain⟨y,ys,h1,_⟩:=(h':∃y ys,xs=y::ys/\Rep H t y/\RepR H r ys);rw[(h:xs=[])]at h1;cases h1
 |.cons k t r,.nil,xs,h,h'=>by
  obtain⟨y,ys,h1,_⟩:=(h:∃y ys,xs=y::ys/\Rep H t y/\RepR H r ys);rw[(h':xs=[])]at h1;cases h1
 |.cons k t r,.cons j u q,xs,h,h'=>by
  obtain⟨y,ys,h1,h2,h3⟩:=(h:∃y ys,xs=y::ys/\Rep H t y/\RepR H r ys);obtain⟨z,zs,g1,g2,g3⟩:=(h':∃y ys,xs=y::ys/\Rep H u y/\RepR H q ys);rw[h1]at g1;cases g1;show t.size+r.size=u.size+q.size;rw[Rep.inj h2 g2,RepR.inj h3 g3]
theorem RepD.inj{H:Hp}:∀{l m:Ts}{xs:List (A4×V)},RepD H l xs->RepD H m xs->l.size=m.size
 |.nil,.nil,_,_,_=>rfl
 |.nil,.cons k t r,xs,h,h'=>by
  obtain⟨y,ys,h1,_⟩:=(h':∃y ys,xs=(Sum.inr k,y)::ys/\Rep H t y/\RepD H r ys);rw[(h:xs=[])]at h1;cases h1
 |.cons k t r,.nil,xs,h,h'=>by
  obtain⟨y,ys,h1,_⟩:=(h:∃y ys,xs=(Sum.inr k,y)::ys/\Rep H t y/\RepD H r ys);rw[(h':xs=[])]at h1;cases h1
 |.cons k t r,.cons j u q,xs,h,h'=>by
  obtain⟨y,ys,h1,h2,h3⟩:=(h:∃y ys,xs=(Sum.inr k,y)::ys/\Rep H t y/\RepD H r ys);obtain⟨z,zs,g1,g2,g3⟩:=(h':∃y ys,xs=(Sum.inr j,y)::ys/\Rep H u y/\RepD H q ys);rw[h1]at g1;cases g1;show t.size+r.size=u.size+q.size;rw[Rep.inj h2 g2,RepD.inj h3 g3]
end
mutual
theorem Rep.other{H:Hp}{a:Addr}{o:HO}{n:Nat}(ha:∀u,Rep H u (.ref a)->n<=u.size):∀{t:Th}{v:V},t.size<n->Rep H t v->Rep (upd H a o) t v
 |.num _,_,_,h=>h
 |.word _,_,_,h=>h
 |.row l,v,hn,h=>by
  have hh:=h;obtain⟨b,xs,h1,h2,h3⟩:=(h:∃b xs,v=V.ref b/\H b=some (.lst xs)/\RepR H l xs);have hb:b≠a:=λz=>by
   rw[h1,z]at hh;exact absurd (ha (.row l) hh) (not_le.mpr hn)
  exact⟨b,xs,h1,by rw[A9 hb];exact h2,RepR.other ha (lt_of_succ_lt (show l.size+1<n from hn)) h3⟩
 |.dic l,v,hn,h=>by
  have hh:=h;obtain⟨b,xs,h1,h2,h3⟩:=(h:∃b xs,v=V.ref b/\H b=some (.dK xs)/\RepD H l xs);have hb:b≠a:=λz=>by
   rw[h1,z]at hh;exact absurd (ha (.dic l) hh) (not_le.mpr hn)
  exact⟨b,xs,h1,by rw[A9 hb];exact h2,RepD.other ha (lt_of_succ_lt (show l.size+1<n from hn)) h3⟩
theorem RepR.other{H:Hp}{a:Addr}{o:HO}{n:Nat}(ha:∀u,Rep H u (.ref a)->n<=u.size):∀{l:Ts}{xs:List V},l.size<n->RepR H l xs->RepR (upd H a o) l xs
 |.nil,_,_,h=>h
 |.cons k t r,xs,hn,h=>by
  obtain⟨y,ys,h1,h2,h3⟩:=(h:∃y ys,xs=y::ys/\Rep H t y/\RepR H r ys);have hn':t.size+r.size<n:=hn;exact⟨y,ys,h1,Rep.other ha (!1) h2,RepR.other ha (!1) h3⟩
theorem RepD.other{H:Hp}{a:Addr}{o:HO}{n:Nat}(ha:∀u,Rep H u (.ref a)->n<=u.size):∀{l:Ts}{xs:List (A4×V)},l.size<n->RepD H l xs->RepD (upd H a o) l xs
 |.nil,_,_,h=>h
 |.cons k t r,xs,hn,h=>by
  obtain⟨y,ys,h1,h2,h3⟩:=(h:∃y ys,xs=(Sum.inr k,y)::ys/\Rep H t y/\RepD H r ys);have hn':t.size+r.size<n:=hn;exact⟨y,ys,h1,Rep.other ha (!1) h2,RepD.other ha (!1) h3⟩
end
def Ts.get(k:Str):Ts->Option Th
 |.nil=>none
 |.cons j t r=>if j=k then some t else r.get k
def Ts.ths:Ts->List Th
 |.nil=>[]
 |.cons _ t r=>t::r.ths
theorem Ts.keys_len:∀l:Ts,l.keys.length=l.len
 |.nil=>rfl
 |.cons _ _ r=>congrArg (· + 1) (Ts.keys_len r)
theorem RepR.len{H:Hp}:∀{l:Ts}{xs:List V},RepR H l xs->xs.length=l.len
 |.nil,xs,h=>by rw[(h:xs=[])];rfl
 |.cons k t r,xs,h=>by
  obtain⟨y,ys,rfl,_,h3⟩:=(h:∃y ys,xs=y::ys/\Rep H t y/\RepR H r ys);exact congrArg (· + 1) (RepR.len h3)
theorem RepD.len{H:Hp}:∀{l:Ts}{xs:List (A4×V)},RepD H l xs->xs.length=l.len
 |.nil,xs,h=>by rw[(h:xs=[])];rfl
 |.cons k t r,xs,h=>by
  obtain⟨y,ys,rfl,_,h3⟩:=(h:∃y ys,xs=(Sum.inr k,y)::ys/\Rep H t y/\RepD H r ys);exact congrArg (· + 1) (RepD.len h3)
theorem RepD.keys{H:Hp}:∀{l:Ts}{xs:List (A4×V)},RepD H l xs->xs.map (·.1)=l.keys.map Sum.inr
 |.nil,xs,h=>by rw[(h:xs=[])];rfl
 |.cons k t r,xs,h=>by
  obtain⟨y,ys,rfl,_,h3⟩:=(h:∃y ys,xs=(Sum.inr k,y)::ys/\Rep H t y/\RepD H r ys);show Sum.inr k::ys.map (·.1)=Sum.inr k::r.keys.map Sum.inr;rw[RepD.keys h3]
theorem RepR.at{H:Hp}:∀{l:Ts}{xs:List V},RepR H l xs->∀(i:Nat)(y:V),xs[i]?=some y->∃t,l.ths[i]?=some t/\Rep H t y
 |.nil,xs,h,i,y,e=>by rw[(h:xs=[])]at e;simp at e
 |.cons k t r,xs,h,i,y,e=>by
  obtain⟨z,zs,rfl,h2,h3⟩:=(h:∃y ys,xs=y::ys/\Rep H t y/\RepR H r ys);cases i with
  |zero=>
   have e':z=y:=by simpa using e
   subst e';exact⟨t,rfl,h2⟩
  |succ i=>
   obtain⟨u,g1,g2⟩:=RepR.at h3 i y (by simpa using e);exact⟨u,by simpa [Ts.ths]using g1,g2⟩
theorem RepD.val{H:Hp}:∀{l:Ts}{kvs:List (A4×V)},RepD H l kvs->∀{k:Str}{t:Th},l.get k=some t->∃y,K8 kvs (Sum.inr k)=some y/\Rep H t y
 |.nil,kvs,h,k,t,e=>by cases e
 |.cons j u r,kvs,h,k,t,e=>by
  obtain⟨y,ys,rfl,h2,h3⟩:=(h:∃y ys,kvs=(Sum.inr j,y)::ys/\Rep H u y/\RepD H r ys);have e':(if j=k then some u else r.get k)=some t:=e;unfold K8;rw[find?_cons];by_cases hj:j=k
  ·rw[if_pos hj]at e'
   cases e';subst hj;exact⟨y,!2,h2⟩
  ·rw[if_neg hj]at e'
   obtain⟨z,g1,g2⟩:=RepD.val h3 e';refine⟨z,?_,g2⟩;have hd:decide ((Sum.inr j:A4)=Sum.inr k)=false:=decide_eq_false λq=>hj (Sum.inr.inj q)
   simp only[hd];exact g1
end Rg
namespace Rg
open PySem PySem.W PySem.Spec PyProof.Rows L2
abbrev Y8(X:Cx):Cx:={X with A:=X.A.in1.in1}
theorem Dn{X:Cx}(o:X.Ok):(Y8 X).Ok:=⟨o.mod,o.kind,o.glob,o.blt,o.above,o.inj,o.has,o.cab,o.hd,o.frames,o.stk,o.exf,o.bs,o.bsz,o.noex,o.exfs,o.funs,o.frf⟩
theorem Do{X:Cx}(o:(Y8 X).Ok):X.Ok:=⟨o.mod,o.kind,o.glob,o.blt,o.above,o.inj,o.has,o.cab,o.hd,o.frames,o.stk,o.exf,o.bs,o.bsz,o.noex,o.exfs,o.funs,o.frf⟩
theorem jU{X:Cx}{ζ:List (Addr×Obj)}{σ:L2.St}{H:Hp}{s:Shared}(I:Inv X ζ σ H s):Inv (Y8 X) ζ σ H s:=
 ⟨Dn I.ok,I.os,I.bare,I.base,I.loc,I.cell,I.free,I.freeC,I.pin,I.hok,I.len⟩
theorem jV{X:Cx}{ζ:List (Addr×Obj)}{σ:L2.St}{H:Hp}{s:Shared}(I:Inv (Y8 X) ζ σ H s):Inv X ζ σ H s:=
 ⟨Do I.ok,I.os,I.bare,I.base,I.loc,I.cell,I.free,I.freeC,I.pin,I.hok,I.len⟩
def L7(x:Str):List V:=[.int x.length,.str x]
def W3:Sp:=λvs H Q _=>∃x:Str,vs=[.str x]/\x.length<=1000/\∀p,H p=none->Q (.ref p) (upd H p (.tup (L7 x)))
def KeysAre(H:Hp):List Str->List Value->Prop:=Paired λx u=>∃p,u=Value.ref p/\H p=some (.tup (L7 x))
theorem KeysAre.mono{H H':Hp}(e:Same H H'){xs:List Str}{us:List Value}(h:KeysAre H xs us):KeysAre H' xs us:=
 Paired.mapP h λ_ _ ⟨p,h1,h2⟩=>⟨p,h1,e _ _ h2⟩
theorem KeysAre.snoc{H:Hp}{x:Str}{u:Value}:∀{xs:List Str}{us:List Value},KeysAre H xs us->(∃p,u=Value.ref p/\H p=some (.tup (L7 x)))->KeysAre H (xs++[x]) (us++[u])
 |_,_,.nil,h=>.cons h .nil
 |_,_,.cons r t,h=>.cons r (KeysAre.snoc t h)
theorem C3{H:Hp}{p:Addr}(h:H p=none)(o:HO):Same H (upd H p o):=λb u q=>by rw[A9 (E6 q h)];exact q
section
variable{X:Cx}{ζ:List (Addr×Obj)}{σ:L2.St}{H:Hp}{s:Shared}
theorem W4{b:Addr}{h':Heap}{t':Nat}(I:Inv X ζ σ H s)(f:E7 X ζ H b)(k:∀c o,c≠b->s.heap.get? c=some o->h'.get? c=some o):Inv X ζ σ H {s with heap:=h',toks:=t'}:=
 I.turned k f.1 f.2.1 f.2.2.2.1 f.2.2.2.2.1 f.2.2.2.2.2
theorem jW{b:Addr}{o:Obj}(I:Inv X ζ σ H s)(f:E7 X ζ H b)(e:s.heap.get? b=some o)(d:∀v,o.data≠.cell v):Inv X (ζ++[(b,o)]) σ H s:=
 I.pins_of λp hp=>(mem_append.mp hp).elim (λz=>I.pin p (mem_append_right _ z)) λz=>by
  have q:p=(b,o):=by simpa using z
  subst q;exact⟨e,f.1,f.2.1,f.2.2.1,d⟩
theorem fO{q:Addr×Obj}(I:Inv X (ζ++[q]) σ H s):Inv X ζ σ H s:=I.pins_of λp hp=>I.pin p (mem_append_right _ (mem_append_left _ hp))
theorem fP{b:Addr}{o:Obj}(I:Inv X (ζ++[(b,o)]) σ H s):s.heap.get? b=some o/\H b=none:=by
 have z:=I.pin (b,o) (mem_append_right _ (mem_append_right _ (mem_singleton.mpr rfl)));exact⟨z.1,z.2.1⟩
theorem jX{H':Hp}{b:Addr}(f:E7 X ζ H b)(h:H' b=none):E7 X ζ H' b:=⟨h,f.2⟩
theorem jY{b c:Addr}{o:Obj}(f:E7 X ζ H b)(h:c≠b):E7 X (ζ++[(c,o)]) H b:=
 ⟨f.1,f.2.1,f.2.2.1,f.2.2.2.1,f.2.2.2.2.1,λp hp=>by
  rcases mem_append.mp hp with hp|hp
  ·exact f.2.2.2.2.2 p (mem_append_left _ hp)
  ·rcases mem_append.mp hp with hp|hp
   ·exact f.2.2.2.2.2 p (mem_append_right _ hp)
   ·have q:p=(c,o):=by simpa using hp
    subst q;exact h⟩
end
theorem Dp{P:Program}{w:World}{A:Around}{E:Value->Shared->Prop}{s:Shared}{H:Hp}{xs:List Str}{us:List Value}{Q:SortKind->Shared->Prop}(hok:HOk P w H s.heap)(k:KeysAre H xs us)(hl:0<us.length)(h:Q (tuples' true) s):
  wpAny (model P w) A (keyKind' us.toArray) Q E s:=by
 have key:∀{xs:List Str}{us:List Value},KeysAre H xs us->∃fs,KatTups s.heap us fs/\fs.length=us.length/\∀v∈fs,∃(i:Int)(t:Tok),v=Value.int i t:=by
  intro xs us k
  induction k with
  |nil=>exact⟨[],KatTups.nil,rfl,λv hv=>absurd hv (!2)⟩
  |cons r _ ih=>
   obtain⟨p,rfl,hp⟩:=r;obtain⟨fs,h1,h2,h3⟩:=ih;obtain⟨_,ws,rw',⟨oy,ey,cy,ny,dy⟩⟩:=hok p _ hp;obtain⟨w1,w2,rfl,⟨t3,rfl⟩,⟨t4,rfl⟩⟩:=Vals.two rw';refine⟨_::fs,KatTups.cons ey cy dy rfl h1,by rw[length_cons,length_cons,h2],λv hv=>?_⟩;rcases mem_cons.mp hv with rfl|hv
   ·exact⟨_,_,rfl⟩
   ·exact h3 v hv
 obtain⟨fs,h1,h2,h3⟩:=key k;refine kat_kind (T:=.type "int") h1 (!1) (λv hv=>?_) (!3) (by rw[show(Value.type "int" != Value.type "tuple")=true by decide];exact h);obtain⟨i,t,rfl⟩:=h3 v hv;exact λA Q E s' _ q=>wpAny_typeOf (typeIs_int s' i t) q
end Rg
namespace Rg
open PySem PySem.W PySem.Spec PyProof.Rows L2
theorem Dq:typeLookup (.type "list_reverseiterator") "__len__"=pure none:=by
 rw[typeLookup_type,builtinLookup_eq_fast]
 kernel_rfl
theorem Dr:typeLookup (.type "list_reverseiterator") "__length_hint__"=pure (some (.builtin "list_reverseiterator.__length_hint__")):=by
 rw[typeLookup_type,builtinLookup_eq_fast]
 kernel_rfl
section
variable{prog:Program}{w:World}{A:Around}{E:Value->Shared->Prop}{s:Shared}
theorem Ds{r:Addr}{Q:Bool->Shared->Prop}(hT:s.TypeIs (.ref r) "list_reverseiterator")(h:Q false s):wpAny (model prog w) A (Builtin.List.listLengthHint (.ref r)) Q E s:=by
 unfold Builtin.List.listLengthHint;refine wpAny_bind (wpAny_specialOf hT Dq ?_);show wpAny _ _ (specialOf (Value.ref r) (Str.ofString "__length_hint__") >>= _) _ _ s;refine wpAny_bind (wpAny_specialOf hT Dr ?_);generalize hid:("list_reverseiterator.__length_hint__" : String)=id0
 wp_delta
 rw[show splitId id0=some ("list_reverseiterator","__length_hint__")from by subst hid;decide +kernel];subst hid;refine wpAny_bind (wpAny_isInstance (b:=true) hT (by rw[isSubtype_type];kernel_rfl) ?_);exact wpAny_pure h
theorem Du{items acc:Array Value}(h:ItemsOf (λi v=>items[items.size-1-i]?=some v) acc items.size):acc.toList=items.toList.reverse:=by
 obtain⟨h1,h2⟩:=h;apply List.ext_getElem?;intro j;by_cases hj:j<acc.size
 ·have e:=h2 j acc[j] (by simp[hj])
  rw[Array.getElem?_toList,Array.getElem?_eq_getElem hj,getElem?_reverse (by rw[Array.length_toList,←h1];exact hj),Array.length_toList,Array.getElem?_toList];exact e.symm
 ·rw[getElem?_eq_none (by rw[Array.length_toList];omega),getElem?_eq_none (by rw[length_reverse,Array.length_toList];omega)]
theorem Dv{R:Result->Shared->Prop}{it l S:Addr}{items:Array Value}{res:Value}{c₀:Nat}(hh:A.handled=none)(hit:s.heap.IsRevIter it l ((items.size:Int)-1))(hl:s.heap.IsList l items)(hli:l≠it)(hSl:S≠l)(hSi:S≠it)
  (hS:s.heap.get? S=some {cls:=.type "list",data:=.seq #[] c₀}) (hn:items.size<=sizeLine)
  (hR:∀h' tk acc c,(∀b o,b≠S->b≠it->s.heap.get? b=some o->h'.get? b=some o)->h'.get? S=some {cls:=.type "list",dict:=none,data:=.seq acc c,slots:=#[]}->acc.toList=items.toList.reverse->R (.ok (.ret res)) {s with heap:=h',toks:=tk}):
  wpAny (model prog w) A.in1 (Builtin.List.listExtendWith (.ref S) (.ref it) res)
   (λfin s'=>match fin with|.done f=>R (.ok f) s'|.again c'=>c'.quiet=true/\codeAny (model prog w) A c' R s') (λe s'=>R (.error e) s') s:=by
 have W:=Walks.listRev (prog:=prog) (w:=w) (A:=A.in1) hh it l hli items;have hSf:S∉[it,l]:=by
  intro z;rcases mem_cons.mp z with z|z
  ·exact hSi z
  ·exact hSl (mem_singleton.mp z)
 have h0:((items.size:Int)-1-((0:Nat):Int))=(items.size:Int)-1:=by omega
 have h1:Builtin.List.listSameRef (.ref S) (.ref it)=false:=by simp[Builtin.List.listSameRef,hSi]
 unfold Builtin.List.listExtendWith;refine wpAny_bind (wpAny_typeOf hit.typeIs ?_);rw[if_neg (by rw[h1];decide)];refine wpAny_bind (wpAny_pyIter_revIter hit ?_);refine wpAny_bind (wpAny_holding (Ds hit.typeIs ?_));rw[if_neg (!3)];refine wpAny_pure ⟨plainId_quiet PySem.F.plain_extend_loop _,codeAny_extend_loopS W.toS hn S hSf res items.size 0 s #[] c₀ rfl (zero_le _) ⟨zero_le _,by rw[h0];exact hit,hl⟩ hS (ItemsOf.nil _) λs' acc c hm hS' hacc=>?_⟩;rw[Moved.eq_with hm];refine hR s'.heap s'.toks acc c (λb o hb hb2 q=>hm.heap b o (λz=>?_) q) hS' (Du hacc);rcases mem_cons.mp z with z|z
 ·exact hb z
 ·exact hb2 (mem_singleton.mp z)
theorem Dw{R:Result->Shared->Prop}{it l S:Addr}{items:Array Value}(hh:A.handled=none)(hit:s.heap.IsRevIter it l ((items.size:Int)-1))(hl:s.heap.IsList l items)(hli:l≠it)(hSl:S≠l)(hSi:S≠it)
  (hS:s.heap.get? S=some {cls:=.type "list",data:=.seq #[]}) (hn:items.size<=sizeLine)
  (hR:∀h' tk acc c,(∀b o,b≠S->b≠it->s.heap.get? b=some o->h'.get? b=some o)->h'.get? S=some {cls:=.type "list",dict:=none,data:=.seq acc c,slots:=#[]}->acc.toList=items.toList.reverse->R (.ok (.ret .none)) {s with heap:=h',toks:=tk}):
  wpAny (model prog w) A.in1 (Builtin.«list.__init__» ⟨[.ref S,.ref it],[]⟩)
   (λfin s'=>match fin with|.done f=>R (.ok f) s'|.again c'=>c'.quiet=true/\codeAny (model prog w) A c' R s') (λe s'=>R (.error e) s') s:=by
 show wpAny _ _ (do let old ←Builtin.List.listItems (.ref S);Builtin.List.listUpdate (.ref S) (λ_=>#[]);letGo old.toList.reverse;Builtin.List.listExtendWith (.ref S) (.ref it) .none) _ _ s;refine wpAny_bind (listItems_at hS rfl ?_);refine wpAny_bind (listUpdate_at hS rfl ?_ (zero_le _) (zero_le _));have hS₂:=Heap.get?_update_self (Obj.mapSeq (λ_=>(#[]:Array Value))) hS rfl;have oth:∀b o,b≠S->s.heap.get? b=some o->(s.heap.update S (Obj.mapSeq (λ_=>(#[]:Array Value)))).get? b=some o:=λb o hb q=>(Heap.get?_update_other _ _ (Ne.symm hb)).trans q
 obtain⟨ol,el,rl⟩:=hl;refine wpAny_bind (wpAny_letGo ?_);refine Dv (items:=items) hh (hit.at λo q=>oth _ o (Ne.symm hSi) q) ⟨ol,oth _ _ (Ne.symm hSl) el,rl⟩ hli hSl hSi hS₂ hn λh' tk acc c hk hS' hacc=>?_
 exact hR h' tk acc c (λb o hb hb2 q=>hk b o hb hb2 (oth b o hb q)) hS' hacc
theorem Dx{Q:Value->Shared->Prop}{it l:Addr}{items:Array Value}(hh:A.handled=none)(hit:s.heap.IsRevIter it l ((items.size:Int)-1))(hl:s.heap.IsList l items)(hli:l≠it)(hn:items.size<=sizeLine)
  (hQ:∀h' tk acc c,(∀b o,b≠it->s.heap.get? b=some o->h'.get? b=some o)->h'.get? s.heap.objs.size=some {cls:=.type "list",dict:=none,data:=.seq acc c,slots:=#[]}->acc.toList=items.toList.reverse->Q (.ref s.heap.objs.size) {s with heap:=h',toks:=tk}):
  wpAny (model prog w) A (call (.type "list") [.ref it]) Q E s:=by
 refine callType_codes (Q₁:=λobj s₁=>obj=.ref s.heap.objs.size/\s₁={s with heap:=s.heap.push {cls:=.type "list",data:=.seq #[]} }) PySem.F.called_list (PySem.F.typeCall_list_1 _) PySem.F.entry_list_init (code_list_new _ ⟨rfl,rfl⟩) λobj s₁ h₁=>?_
 obtain⟨rfl,rfl⟩:=h₁;have hS:(s.heap.push {cls:=.type "list",data:=.seq #[]}).get? s.heap.objs.size=some {cls:=.type "list",data:=.seq #[]}:=Heap.get?_push_size _ rfl;obtain⟨oi,ei,_⟩:=id hit;obtain⟨ol,el,rl⟩:=id hl;refine⟨⟨_,hS,rfl⟩,PySem.F.args_list_init_2 _ _,Dw (A:=A.in1) (items:=items) hh (hit.at λo q=>Heap.get?_push_of_some _ q) ⟨ol,Heap.get?_push_of_some _ el,rl⟩ hli (ne_of_gt (Heap.lt_size el)) (ne_of_gt (Heap.lt_size ei)) hS hn (λh' tk acc c hk hS' hacc=>?_)⟩;exact⟨rfl,hQ h' tk acc c (λb o hb q=>hk b o (ne_of_lt (Heap.lt_size q)) hb (Heap.get?_push_of_some _ q)) hS' hacc⟩
end
section
variable{X:Cx}{ζ:List (Addr×Obj)}{σ:L2.St}{H:Hp}{s:Shared}{D:Addr}
theorem cN{o:HO}(I:Inv X ζ σ H s)(f:E7 X ζ H D)(hz:X.s₀.heap.objs.size<=D)(ok:ObjOk X.prog X.w (upd H D o) s.heap D o):Inv X ζ σ (upd H D o) s:=by
 obtain⟨f0,f1,f2,f3,f4,f5⟩:=f;refine⟨I.ok,I.os,I.bare,sX I.base hz hz f0 (.refl D s.heap),I.loc,I.cell,by rw[A9 (Ne.symm f1)];exact I.free,λy c q=>by rw[A9 (f4 y c q)];exact I.freeC y c q,λp hp=>?_,λa u q=>?_,I.len⟩
 ·obtain⟨z1,z2,z3⟩:=I.pin p hp
  exact⟨z1,by rw[A9 (f5 p hp)];exact z2,z3⟩
 ·by_cases ha:a=D
  ·subst ha
   rw[A6]at q;cases q;exact ok
  ·rw[A9 ha]at q
   exact(I.hok a u q).stay (λb v _ q'=>q') (λb z=>by rw[A9 (E6 z f0)];exact z) λb xs z=>by rw[A9 (E6 z f0)];exact z
end
section
variable{X:Cx}{e:Expr}{te:TE}{p p2 pos pos2:Pos}
theorem Dy(hc:X.calm=true)(hg:Gl X "list")(hm:X.mg "list"=none)(hg2:Gl X "reversed")(hm2:X.mg "reversed"=none)(he:PE X e te)(h0:starEach [e] X.env=[(false,eval e X.env)]:=by rfl)
  (h1:starEach [.Call (.Name "reversed" p2) [e] [] pos2] X.env=[(false,eval (.Call (.Name "reversed" p2) [e] [] pos2) X.env)]:=by rfl):
  PE X (.Call (.Name "list" p) [.Call (.Name "reversed" p2) [e] [] pos2] [] pos) (fun σ H Q=>te σ H λx H1=>∃a xs,x=.ref a/\SqL X.K H1 a xs/\∀p,H1 p=none->Q (.ref p) (upd H1 p (.lst xs.reverse))):=by
 intro ζ s σ H Q I h;refine wpAny_Call_Name_kw (W1 I hg hm boot_list ?_);refine PyProof.Rows.callWith_type1 ?_ (by rw[h1];rfl) rfl;rw[h1];show wpAny _ _ (spliced ((false,eval (.Call (.Name "reversed" p2) [e] [] pos2) X.env)::backTo pos [])) _ _ s;refine Calls.spliced_cons ?_;refine wpAny_Call_Name_kw (W1 I hg2 hm2 boot_reversed ?_);refine PyProof.Rows.callWith_type1 ?_ (by rw[h0];rfl) rfl;rw[h0];show wpAny _ _ (spliced ((false,eval e X.env)::backTo pos2 [])) _ _ s;refine Calls.spliced_cons (A7 (he ζ s σ H _ I h) λu s1 h9=>?_);obtain⟨x,H1,I1,ru,a,xs,ex,hq,q⟩:=h9;subst ex;cases ru;refine Calls.spliced_nil ?_;obtain⟨its,rv,pl,hz⟩:=I1.list hq;refine call_reversed_list pl.isList ?_;refine Calls.spliced_nil ?_;have hl:=rv.length;have hil:its.toArray.size<=sizeLine:=by rw[size_toArray,←hl];exact hz
 have I2:Inv X ζ σ H1 {s1 with heap:=s1.heap.push (revObj a ((its.toArray.size:Int)-1)),toks:=s1.toks}:=I1.kept λb o z=>Heap.get?_push_of_some _ z
 have fI:E7 X ζ H1 s1.heap.objs.size:=I1.fpOk (le_refl _) (I1.hok.fresh (le_refl _));have pl':(s1.heap.push (revObj a ((its.toArray.size:Int)-1))).IsList a its.toArray:=by
  obtain⟨ol,el,rl⟩:=pl.isList;exact⟨ol,Heap.get?_push_of_some _ el,rl⟩
 have hai:a≠s1.heap.objs.size:=by
  obtain⟨ol,el,rl⟩:=pl.isList;exact ne_of_lt (Heap.lt_size el)
 refine Dx (items:=its.toArray) (I.ok.hd hc) ⟨_,Heap.get?_push_size _ rfl,rfl,rfl⟩ pl' hai hil λh' tk acc c hk hD hacc=>?_
 have I3:=W4 (h':=h') (t':=tk) I2 fI λc' o hc' z=>hk c' o hc' z
 have fD:E7 X ζ H1 (s1.heap.push (revObj a ((its.toArray.size:Int)-1))).objs.size:=I2.fpOk (le_refl _) (I2.hok.fresh (le_refl _));refine⟨.ref _,upd H1 _ (.lst xs.reverse),cN I3 fD I2.sz ?_,rfl,q _ fD.1⟩;refine⟨by rw[length_reverse];exact hz,its.reverse,c,Vals.reverse rv,?_⟩;have ea:acc=its.reverse.toArray:=by
  apply Array.toList_inj.mp;rw[hacc]
 rw[ea]at hD;exact hD
end
end Rg
namespace Rg
open PySem PySem.W PySem.Spec PyProof.Rows L2
def fQ(X:Cx)(id:String)(ks:List Str)(r:List V->List V->Hp->VK->Prop):Prop:=
 ∀(ζ:List (Addr×Obj))(s:Shared)(σ:L2.St)(H:Hp)(vs zs:List V)(us ws:List Value)(Q:VK),Inv X ζ σ H s->Vals vs us->Vals zs ws->r vs zs H Q->
  wpAny (model X.prog X.w) X.A (call (.builtin id) us (ks.zip ws)) (EP X ζ σ Q) X.xe s
section
variable{X:Cx}{x:Str}{id:String}{ks:List Str}{r:List V->List V->Hp->VK->Prop}{e:Expr}{es:List Expr}{kws:List Keyword}{t tk:TA}{p pos:Pos}
theorem tE(hc:fQ X id ks r)(hg:Gl X x)(hm:X.mg x=none)(hv:bootBuiltins x=some (.builtin id))(ha:PA X (e::es) t)(hkw:PK X kws tk)(hks:(backToKw pos (keywordEach kws X.env)).filterMap (·.1)=ks:=by rfl)
  (hn:x≠"__name__":=by decide) (hdb:(x==("__debug__" : Str))=false:=by decide)
  (he:backTo pos (starEach (e::es) X.env)=(false,eval e X.env)::backTo pos (starEach es X.env):=by rfl) (hplain:(backTo pos (starEach (e::es) X.env)).any (·.1)=false:=by rfl)
  (hall:(backToKw pos (keywordEach kws X.env)).all (·.1.isSome)=true:=by rfl) (hkn:(backToKw pos (keywordEach kws X.env)).any (·.1.isNone)=false:=by rfl):
  PE X (.Call (.Name x p) (e::es) kws pos) (fun σ H Q=>t σ H λvs H1=>tk σ H1 λzs H2=>r vs zs H2 Q):=by
 intro ζ s σ H Q I h;refine wpAny_Call_Name_kw (W1 I hg hm hv ?_ hn hdb);refine callWith_kw (A7 (ha pos ζ s σ H _ I h) λus s1 ⟨vs,H1,I1,r1,q1⟩=>A7 (hkw pos ζ s1 σ H1 _ I1 q1) λws s2 ⟨zs,H2,I2,rz,q2⟩=>?_) he hplain hall hkn;rw[hks];exact hc ζ s2 σ H2 vs zs us ws Q I2 r1 rz q2
end
end Rg
namespace Rg
open PySem PySem.W PySem.Spec PyProof.Rows L2
section
variable{X:Cx}{ζ:List (Addr×Obj)}{σ:L2.St}{H:Hp}{s:Shared}{h':Heap}
theorem tF{t':Nat}{fp:List Addr}(I:Inv X ζ σ H s)(k:∀b o,b∉fp->s.heap.get? b=some o->h'.get? b=some o)(hf:∀b∈fp,E7 X ζ H b):Inv X ζ σ H {s with heap:=h',toks:=t'}:=by
 have nit:∀b u,H b=some u->b∉fp:=λb u e z=>by rw[(hf b z).1]at e;cases e
 refine I.step (g':=s.gens) (d':=s.drawn) (ch:=fp) (λb hb=>?_) (λb o _ _ hc e _=>k b o hc e) (λb o _ _ hc e _=>⟨o.slots,k b o hc e⟩) (λ_ _ _ _ n=>n)
  (λb o hc e=>⟨o,k b o hc e⟩) (λ_ _ e=>e) (λ_ _ _ e=>e) (λb ps e=>⟨#[],by rw[e];simp⟩) (λm hm=>?_) (λb u e=>?_) I.bare
 ·obtain⟨f0,f1,f2,f3,f4,f5⟩:=hf b hb
  exact⟨f3,f1,f4,f5⟩
 ·obtain⟨o,es,ep,ho,r⟩:=hm
  exact⟨o,es,ep,k _ o (λz=>(hf _ z).2.1 rfl) ho,r⟩
 ·refine(I.hok b u e).stay (λc v hc q=>k c v ?_ q) (λ_ q=>q) λ_ _ q=>q
  rcases hc with z|z
  ·rw[z];exact nit b u e
  ·exact nit c _ z
end
end Rg
namespace Rg
open PySem PySem.W PySem.Spec PyProof.Rows L2
section
variable{X:Cx}{ζ pins1:List (Addr×Obj)}{σ σ1:L2.St}{H H1:Hp}{s s1:Shared}{a:Addr}{o:Obj}{kvs:List (A4×V)}
theorem Dz(I:Inv X ζ σ H s)(ha:H a=some (.dK kvs))(ho:s.heap.get? a=some o):Inv X ζ σ (upd H a (.frz o (.dK kvs))) s:=by
 have tr:∀b u,H b=some u->u≠.dK kvs->upd H a (.frz o (.dK kvs)) b=some u:=λb u q d=>by rw[A9 (U5 q ha d)];exact q
 have un:Un X.fs [] H (upd H a (.frz o (.dK kvs))) s.heap s.heap:=by
  refine⟨λb ob q n _ _=>q,λb ob q n _ _=>⟨ob.slots,q⟩,λb ob q n _=>?_,λb ob q _=>⟨ob,q⟩,λb xs q=>tr b _ q (λz=>by cases z),λb ob u q=>tr b _ q (λz=>by cases z),λb ps q=>⟨#[],?_⟩⟩
  ·rw[A9 (λz=>by rw[z,ha]at n;cases n)]
   exact n
  ·rw[tr b _ q (λz=>by cases z)]
   simp
 refine I.un (h':=s.heap) (t':=s.toks) un λb u q=>?_
 by_cases hb:b=a
 ·subst hb
  rw[A6]at q;cases q;exact⟨ho,(I.hok b _ ha).stay (λ_ _ _ z=>z) (λc z=>tr c _ z (λy=>by cases y)) λc xs z=>tr c _ z (λy=>by cases y)⟩
 ·rw[A9 hb]at q
  exact(I.hok b u q).stay (λ_ _ _ z=>z) (λc z=>tr c _ z (λy=>by cases y)) λc xs z=>tr c _ z (λy=>by cases y)
theorem thaw(I1:Inv X pins1 σ1 H1 s1)(ha:H1 a=some (.dK kvs))(I:Inv X ζ σ H s)(hf:H a=some (.frz o (.dK kvs))):Inv X ζ σ (upd H a (.dK kvs)) s:=by
 have tr:∀b u,H b=some u->u≠.frz o (.dK kvs)->upd H a (.dK kvs) b=some u:=λb u q d=>by rw[A9 (U5 q hf d)];exact q
 have nn:∀b,H b=none->upd H a (.dK kvs) b=none:=λb n=>by
  rw[A9 (λz=>by rw[z,hf]at n;cases n)];exact n
 have un:Un X.fs X.ex X.H₀ (upd H a (.dK kvs)) X.s₀.heap s.heap:=by
  refine⟨I.base.keep,I.base.slot,λb ob q n hx=>nn b (I.base.free b ob q n hx),I.base.there,λb xs q=>tr b _ (I.base.tups b xs q) (λz=>by cases z),λb ob u q=>?_,λb ps q=>?_⟩
  ·have z:=I.base.frzs b ob u q
   have z1:=I1.base.frzs b ob u q;rw[A9 (λe=>by rw[e,ha]at z1;cases z1)];exact z
  ·obtain⟨more,z⟩:=I.base.tbls b ps q
   exact⟨more,tr b _ z (λy=>by cases y)⟩
 refine⟨I.ok,I.os,I.bare,un,I.loc,I.cell,nn _ I.free,λy c q=>nn c (I.freeC y c q),λp hp=>?_,λb u q=>?_,I.len⟩
 ·obtain⟨z1,z2,z3⟩:=I.pin p hp
  exact⟨z1,nn _ z2,z3⟩
 ·by_cases hb:b=a
  ·subst hb
   rw[A6]at q;cases q;have z:s.heap.get? b=some o/\ObjOk X.prog X.w H s.heap b (.dK kvs):=I.hok b _ hf;exact z.2.stay (λ_ _ _ z=>z) (λc z=>tr c _ z (λy=>by cases y)) λc xs z=>tr c _ z (λy=>by cases y)
  ·rw[A9 hb]at q
   exact(I.hok b u q).stay (λ_ _ _ z=>z) (λc z=>tr c _ z (λy=>by cases y)) λc xs z=>tr c _ z (λy=>by cases y)
end
def jZ(a:Addr)(o:Obj)(kvs:List (A4×V)):It:=
 ⟨λi H=>i<kvs.length/\H a=some (.frz o (.dK kvs)),λi H x H'=>H'=H/\∃kv,kvs[i]?=some kv/\x=kV kv.1,λi H=>kvs.length<=i/\H a=some (.frz o (.dK kvs))⟩
def tG(tl:TE):TI:=fun σ H R=>tl σ H λx H1=>∃a kvs,x=.ref a/\H1 a=some (.dK kvs)/\∀o,R (jZ a o kvs) (upd H1 a (.frz o (.dK kvs)))
theorem DA{P:Program}{w:World}{k:A4}{u:Value}(h:(K3 P w).is k u=true):RelV (kV k) u:=by
 rcases T5 (k:=k) (v:=u) h with⟨i,t,rfl,rfl⟩|⟨x,t,rfl,rfl⟩
 ·exact⟨t,rfl⟩
 ·exact⟨t,rfl⟩
theorem DB{P:Program}{w:World}{K:Frag}{tg:Expr}{a it:Addr}{o:Obj}{es:Array DictEntry}{ep:Nat}{kvs:List (A4×V)}(hd:o.data=.dict es ep):
  Turn P w K tg (jZ a o kvs) [it] it (λi h=>h.IsKeyIter it a i kvs.length ep) where
 mem:=by simp
 obj:=λi h st b hb=>by
  have e:b=it:=by simpa using hb
  subst e;obtain⟨ob,e,c,d⟩:=st;exact⟨ob,e,λv z=>by rw[d]at z;cases z⟩
 keep:=λi h h' st k=>st.at λob e=>k it (!2) ob e
 item:=by
  intro X hP hw hK hc i ζ s σ H E I hf st hg;subst hP hw hK;obtain⟨hi,hz⟩:=hg;obtain⟨ho,_,hsm,dvs,rel,ob,es',ep',ho',hx,hd',r1⟩:=(show s.heap.get? a=some o/\ObjOk X.prog X.w H s.heap a (.dK kvs)from I.hok a _ hz);rw[ho]at ho';cases ho';rw[hd]at hd';cases hd';have hlen:=rel.length;obtain⟨f0,f1,f2,f3,f4,f5⟩:=hf it (!2);obtain⟨⟨k,y⟩,hk⟩:∃p,dvs[i]?=some p:=⟨dvs[i]'(!1),getElem?_eq_getElem (!1)⟩
  have st':s.heap.IsKeyIter it a i dvs.length ep:=by rw[←hlen];exact st
  refine wpAny_pyNext_dict_item (knd:=K3 X.prog X.w) st' ⟨o,es,ho,hx,hd,r1⟩ hk λkey h' hkey hit' sb=>?_
  have I1:Inv X ζ σ H {s with heap:=h'}:=I.turned (t':=s.toks) (λb ob hb e=>(sb.2 b hb).trans e) f0 f1 f3 f4 f5;obtain⟨o2,e2,c2,d2⟩:=id hit';have ekv:(kvs.map (·.1))[i]?=some k:=by rw[rel.keys,getElem?_map,hk];rfl
  rw[getElem?_map]at ekv;cases eq:kvs[i]? with
  |none=>rw[eq]at ekv;cases ekv
  |some kv=>
   rw[eq]at ekv;have ek:kv.1=k:=Option.some.inj ekv;refine⟨key,rfl,eR (s:={s with heap:=h'}) e2 c2 d2 (!3) ⟨kV kv.1,H,I1,?_,⟨rfl,kv,eq,rfl⟩,?_,λb hb=>(hf b hb).1⟩⟩
   ·rw[ek]
    exact DA hkey
   ·rw[hlen]
    exact hit'
 done:=by
  intro X hP hw hK hc i ζ s σ H E I hf st hg;subst hP hw hK;obtain⟨hi,hz⟩:=hg;obtain⟨ho,_,hsm,dvs,rel,ob,es',ep',ho',hx,hd',r1⟩:=(show s.heap.get? a=some o/\ObjOk X.prog X.w H s.heap a (.dK kvs)from I.hok a _ hz);rw[ho]at ho';cases ho';rw[hd]at hd';cases hd';have hlen:=rel.length;obtain⟨f0,f1,f2,f3,f4,f5⟩:=hf it (!2);have st':s.heap.IsKeyIter it a i dvs.length ep:=by rw[←hlen];exact st
  exact wpAny_pyNext_dict_end (knd:=K3 X.prog X.w) (I.ok.hd hc) st' ⟨o,es,ho,hx,hd,r1⟩ (getElem?_eq_none (!1)) λh' eb=>⟨rfl,I.turned (t':=s.toks) (λb ob hb e=>eb b ob hb e) f0 f1 f3 f4 f5⟩
 self:=λ_ _ _ _ _ st h=>wpAny_pyIter_keyiter st h
theorem DC{X:Cx}{tg l:Expr}{tl:TE}(hl:PE X l tl):PI X tg l (tG tl):=by
 intro ζ s σ H R I h;refine A7 (hl ζ s σ H _ I h) λv s1 ⟨x,H1,I1,r1,q1⟩=>?_
 obtain⟨a,kvs,e,ha,q⟩:=q1;subst e;cases r1;obtain⟨zl,hsm,dvs,rel,o,es,ep,ho,hx,hd,rr⟩:=T8 I1.hok ha;refine wpAny_pyIter_dict (knd:=K3 X.prog X.w) hsm ⟨o,es,ho,hx,hd,rr⟩ ?_;have I2:Inv X ζ σ H1 {s1 with heap:=s1.heap.push {cls:=.type "dict_keyiterator",data:=.fields #[.ref a,.int 0 0,.int dvs.length 0,.int ep 0]},toks:=s1.toks}:=I1.kept λb ob z=>Heap.get?_push_of_some _ z
 have I3:=Dz (o:=o) I2 ha (Heap.get?_push_of_some _ ho);refine⟨s1.heap.objs.size,[s1.heap.objs.size],_,_,_,rfl,I3,DB (kvs:=kvs) hd,⟨_,Heap.get?_push_size _ rfl,rfl,by rw[rel.length];rfl⟩,λb hb=>?_,q o⟩;have e:b=s1.heap.objs.size:=by simpa using hb
 subst e;have hn:H1 s1.heap.objs.size=none:=I1.hok.fresh (le_refl _);exact I1.fpOk (le_refl _) (by rw[A9 (λz=>by rw[z,ha]at hn;cases hn)];exact hn)
def tH(t:TS):TS:=λD σ H=>∃a kvs,H a=some (.dK kvs)/\t {nx:=fun σ' H'=>∃o,H' a=some (.frz o (.dK kvs))/\D.nx σ' (upd H' a (.dK kvs)),rt:=λv H'=>∃o,H' a=some (.frz o (.dK kvs))/\D.rt v (upd H' a (.dK kvs)),bk:=λ_ _=>False,ct:=λ_ _=>False} σ H
theorem DD{X:Cx}{st:Stmt}{t:TS}(h:PS X st t):PS X st (tH t):=by
 intro ζ s σ H D I hw;obtain⟨a,kvs,ha,hw⟩:=hw;refine A7 (h ζ s σ H _ I hw) λf s' q=>?_
 cases f with
 |next=>
  obtain⟨σ',H',I',o,z,q⟩:=q;exact⟨σ',_,thaw I ha I' z,q⟩
 |brk=>
  obtain⟨σ',H',I',q⟩:=q;exact False.elim q
 |cont=>
  obtain⟨σ',H',I',q⟩:=q;exact False.elim q
 |ret u=>
  obtain⟨v,σ',H',I',r,o,z,q⟩:=q;exact⟨v,σ',_,thaw I ha I' z,r,q⟩
section
variable{fr:List (Str×Nat)}{te:TE}{σ:L2.St}{H:Hp}{Q:VK}
theorem tI{K:Frag}{a:Addr}{xs:List V}(Pv:Nat->List V->Hp->Prop)(hz:xs.length<=sizeLine)(h0:Pv 0 [] H)(hl:∀i ys H,i<=xs.length->Pv i ys H->SqL K H a xs/\ys.length=i)
  (hs:∀i x ys H,xs[i]?=some x->Pv i ys H->te (jR (some x) fr σ) H λy H2=>Pv (i+1) (ys++[y]) H2) (hd:∀ys H,Pv xs.length ys H->∀p,H p=none->Q (.ref p) (upd H p (.lst ys))):
  ∃W:Nat->Nat->List V->Hp->Prop,(∃m,W 0 m [] H)/\∀i m ys H,W i m ys H->((aI K a).stop i H/\ys.length<=sizeLine/\∀p,H p=none->Q (.ref p) (upd H p (.lst ys)))∨
   ((aI K a).go i H/\ys.length<sizeLine/\∃N:V->Hp->Prop,(∀y H2,N y H2->∃m',m'<m/\W (i+1) m' (ys++[y]) H2)/\∀v H',(aI K a).yld i H v H'->te (jR (some v) fr σ) H' N):=by
 refine⟨λi m ys H=>m=xs.length-i/\i<=xs.length/\Pv i ys H,⟨xs.length,!2,zero_le _,h0⟩,?_⟩;rintro i m ys H ⟨rfl,hi,p⟩;obtain⟨q,hy⟩:=hl i ys H hi p;by_cases hlt:i<xs.length
 ·refine .inr ⟨⟨xs,xs[i],q,by simp[hlt]⟩,!1,λy H2=>Pv (i+1) (ys++[y]) H2,λy H2 p'=>⟨xs.length-(i+1),!1,rfl,hlt,p'⟩,λx H' y=>?_⟩
  obtain⟨rfl,y⟩:=y;exact hs i x ys _ (y xs q) p
 ·have e:i=xs.length:=by omega
  subst e;exact .inl ⟨⟨xs,q,le_refl _⟩,!1,hd ys H p⟩
end
end Rg
namespace Rg
open PySem PySem.SeqAt
open AutoSeq1 (wpAny_loadPart')
open MeetsSeq MeetsSeq2 MeetsSeq3 SeqRoads2
def EqIn(P:Program)(w:World)(A:Around)(s:Shared)(y x:Value):Prop:=
 ∀(E:Value->Shared->Prop)(Q:Bool->Shared->Prop),Q true s->wpAny (model P w) A (eqBool y x) Q E s
theorem EqIn.of{P:Program}{w:World}{A:Around}{s:Shared}{y x:Value}(h:EqAt A s y x true):EqIn P w A s y x:=λE Q q=>h P w E Q q
theorem EqIn.refs{P:Program}{w:World}{A:Around}{s:Shared}{l b:Addr}(h:∀(E:Value->Shared->Prop) (Q:Value->Shared->Prop),Q (.bool true) s->wpAny (model P w) A (richCompare .Eq (.ref l) (.ref b)) Q E s):EqIn P w A s (.ref l) (.ref b):=by
 intro E Q q;by_cases e:l=b
 ·subst e
  exact EqAt.same (.ref l) P w E Q q
 ·unfold eqBool
  refine wpAny_holding ?_;refine wpAny_ite_split (λhab=>absurd (by have z:=eq_of_beq hab;injection z) e) (λ_=>?_);exact wpAny_bind (h E _ (wpAny_truthy_bool q))
section
variable{P:Program}{w:World}{l b:Addr}{items items2:Array Value}{n n2:Nat}{dd dd2:Option Addr}{sl sl2:Array (Option Value)}
def fS(P:Program)(w:World)(l b:Addr)(items items2:Array Value)(n n2:Nat)(dd dd2:Option Addr)(sl sl2:Array (Option Value))(r:Bool):Spec:=λA R s=>
 s.heap.get? l=some {cls:=.type "list",dict:=dd,data:=.seq items n,slots:=sl}/\s.heap.get? b=some {cls:=.type "list",dict:=dd2,data:=.seq items2 n2,slots:=sl2}/\
  (∀j (h1:j<items.size) (h2:j<items2.size),EqIn P w A.in1 s items[j] items2[j])/\R (.ok (.ret (.bool r))) s
theorem DE(hsz:items.size=items2.size)(k:Nat):∀i:Nat,items.size-i=k->MeetsIn P w (Builtin.«list.__eq__.loop» ⟨[.ref l,.ref b,rawInt i,rawInt 2],[]⟩) (fS P w l b items items2 n n2 dd dd2 sl sl2 true):=by
 induction k with
 |zero=>
  intro i hk A R s h;obtain⟨hp,g,d,tk,os⟩:=s;obtain⟨hl,hb,he,h⟩:=h
  wp_walk using wpAny_loadPart' hl,wpAny_loadPart' hb
  have g1:items[((i:Nat):Int).toNat]?=none:=by simp;omega
  have g2:items2[((i:Nat):Int).toNat]?=none:=by simp;omega
  rw[g1,g2]
  wp_walk using wpAny_loadPart' hl,wpAny_loadPart' hb
  show R (.ok (.ret (.bool (items.size==items2.size)))) _;rw[hsz];simpa using h
 |succ k ih=>
  intro i hk A R s h;obtain⟨hp,g,d,tk,os⟩:=s;obtain⟨hl,hb,he,h⟩:=h
  wp_walk using wpAny_loadPart' hl,wpAny_loadPart' hb
  have q1:i<items.size:=by omega
  have q2:i<items2.size:=by omega
  have g1:items[((i:Nat):Int).toNat]?=some items[i]:=by simp[q1]
  have g2:items2[((i:Nat):Int).toNat]?=some items2[i]:=by simp[q2]
  have hc:((i:Int)+1)=((i+1:Nat):Int):=by omega
  rw[g1,g2];refine wpAny_bind (he i q1 q2 _ _ ?_)
  wp_walk
  rw[hc];refine⟨plainId_quiet plain_eq_loop _,codeAny_builtin entry_eq_loop ?_⟩;rw[Around.under_plainId plain_eq_loop _];exact ih (i+1) (!1) A R _ ⟨hl,hb,he,h⟩
theorem DF(hsz:items.size=items2.size)(k:Nat):∀i:Nat,items.size-i=k->MeetsIn P w (Builtin.«list.__eq__.loop» ⟨[.ref l,.ref b,rawInt i,rawInt 3],[]⟩) (fS P w l b items items2 n n2 dd dd2 sl sl2 false):=by
 induction k with
 |zero=>
  intro i hk A R s h;obtain⟨hp,g,d,tk,os⟩:=s;obtain⟨hl,hb,he,h⟩:=h
  wp_walk using wpAny_loadPart' hl,wpAny_loadPart' hb
  have g1:items[((i:Nat):Int).toNat]?=none:=by simp;omega
  have g2:items2[((i:Nat):Int).toNat]?=none:=by simp;omega
  rw[g1,g2]
  wp_walk using wpAny_loadPart' hl,wpAny_loadPart' hb
  show R (.ok (.ret (.bool (items.size != items2.size)))) _;rw[hsz];simpa using h
 |succ k ih=>
  intro i hk A R s h;obtain⟨hp,g,d,tk,os⟩:=s;obtain⟨hl,hb,he,h⟩:=h
  wp_walk using wpAny_loadPart' hl,wpAny_loadPart' hb
  have q1:i<items.size:=by omega
  have q2:i<items2.size:=by omega
  have g1:items[((i:Nat):Int).toNat]?=some items[i]:=by simp[q1]
  have g2:items2[((i:Nat):Int).toNat]?=some items2[i]:=by simp[q2]
  have hc:((i:Int)+1)=((i+1:Nat):Int):=by omega
  rw[g1,g2];refine wpAny_bind (he i q1 q2 _ _ ?_)
  wp_walk
  rw[hc];refine⟨plainId_quiet plain_eq_loop _,codeAny_builtin entry_eq_loop ?_⟩;rw[Around.under_plainId plain_eq_loop _];exact ih (i+1) (!1) A R _ ⟨hl,hb,he,h⟩
theorem DG(hsz:items.size=items2.size):MeetsIn P w (Builtin.«list.__eq__» ⟨[.ref l,.ref b],[]⟩) (fS P w l b items items2 n n2 dd dd2 sl sl2 true):=by
 intro A R s h;obtain⟨hp,g,d,tk,os⟩:=s;obtain⟨hl,hb,he,h⟩:=h;have f3:=AutoSeq1.sub_list_list;have hne:¬(items.size != items2.size)=true:=by simp[hsz]
 wp_walk using wpAny_loadPart' hl,wpAny_loadPart' hb
 refine⟨plainId_quiet plain_eq_loop _,codeAny_builtin entry_eq_loop ?_⟩;rw[Around.under_plainId plain_eq_loop _];exact DE hsz _ 0 rfl A R _ ⟨hl,hb,he,h⟩
theorem DH(hsz:items.size=items2.size):MeetsIn P w (Builtin.«list.__ne__» ⟨[.ref l,.ref b],[]⟩) (fS P w l b items items2 n n2 dd dd2 sl sl2 false):=by
 intro A R s h;obtain⟨hp,g,d,tk,os⟩:=s;obtain⟨hl,hb,he,h⟩:=h;have f3:=AutoSeq1.sub_list_list;have hne:¬(items.size != items2.size)=true:=by simp[hsz]
 wp_walk using wpAny_loadPart' hl,wpAny_loadPart' hb
 refine⟨plainId_quiet plain_eq_loop _,codeAny_builtin entry_eq_loop ?_⟩;rw[Around.under_plainId plain_eq_loop _];exact DF hsz _ 0 rfl A R _ ⟨hl,hb,he,h⟩
end
section
variable{P:Program}{w:World}{A:Around}{E:Value->Shared->Prop}{s:Shared}{l b:Addr}{items items2:Array Value}{Q:Value->Shared->Prop}
theorem DI(hl:s.heap.IsList l items)(hb:s.heap.IsList b items2)(hsz:items.size=items2.size)(hu:A.units<cLine)(he:∀j (h1:j<items.size) (h2:j<items2.size),EqIn P w A.in1 s items[j] items2[j])(h:Q (.bool true) s):
  wpAny (model P w) A (richCompare .Eq (.ref l) (.ref b)) Q E s:=by
 obtain⟨⟨cls,dd,data,sl⟩,ho,hc,n,hd⟩:=id hl;obtain⟨⟨cls2,dd2,data2,sl2⟩,ho2,hc2,n2,hd2⟩:=id hb;simp only at hc hd hc2 hd2;subst hc hd hc2 hd2;refine wpAny_richCompare_same_room (op:=.Eq) (T:="list") ⟨_,ho,rfl⟩ ⟨_,ho2,rfl⟩ F.slot_list_eq (call_meetsIn F.slot_list_eq ⟨_,ho,rfl⟩ F.entry_list_eq (F.args_list_eq_2 _ _) (DG hsz) ⟨ho,ho2,he,?_⟩) hu;exact⟨(λx=>nomatch x),h⟩
theorem DJ(hl:s.heap.IsList l items)(hb:s.heap.IsList b items2)(hsz:items.size=items2.size)(hu:A.units<cLine)(he:∀j (h1:j<items.size) (h2:j<items2.size),EqIn P w A.in1 s items[j] items2[j])(h:Q (.bool false) s):
  wpAny (model P w) A (richCompare .NotEq (.ref l) (.ref b)) Q E s:=by
 obtain⟨⟨cls,dd,data,sl⟩,ho,hc,n,hd⟩:=id hl;obtain⟨⟨cls2,dd2,data2,sl2⟩,ho2,hc2,n2,hd2⟩:=id hb;simp only at hc hd hc2 hd2;subst hc hd hc2 hd2;refine wpAny_richCompare_same_room (op:=.NotEq) (T:="list") ⟨_,ho,rfl⟩ ⟨_,ho2,rfl⟩ F.slot_list_ne (call_meetsIn F.slot_list_ne ⟨_,ho,rfl⟩ F.entry_list_ne (F.args_list_ne_2 _ _) (DH hsz) ⟨ho,ho2,he,?_⟩) hu;exact⟨(λx=>nomatch x),h⟩
end
end Rg
namespace Rg
open PySem PySem.SeqAt
section
variable{P:Program}{w:World}{K:Type}[DecidableEq K]{knd:KeyKind P w K}{A:Around}{E:Value->Shared->Prop}{s:Shared}{a b:Addr}{ka kb:List (K×Value)}
def fU(P:Program)(w:World)(A:Around)(s:Shared)(kb:List (K×Value))(l:List (K×Value)):Prop:=∀k v,(k,v)∈l->∃y,valueAt kb k=some y/\EqIn P w A s v y
theorem tJ{nm:String}{Q:Bool->Shared->Prop}(ha:(a==sysModules)=false)(hb:(b==sysModules)=false)(da:s.heap.DictOf knd a ka)(db:s.heap.DictOf knd b kb)(hlen:ka.length=kb.length)(hits:fU P w A s kb ka)(h:Q true s):
  wpAny (model P w) A (Builtin.Dict.samePairs nm a b) Q E s:=by
 obtain⟨oa,es,ep,hoa,_,hda,hka,hpa,_⟩:=da;obtain⟨ob,fs,ep2,hob,_,hdb,hkb,hpb,_⟩:=db;have hla:ka.length=es.size:=by
  rw[←hpa.length];exact Array.length_toList
 have hlb:kb.length=fs.size:=by
  rw[←hpb.length];exact Array.length_toList
 have hsz:es.size=fs.size:=by omega
 have hfind:∀k,findBy knd.is fs k=valueAt kb k:=λk=>by
  rw[←hpb.find k];clear hlb hpb hkb hdb hob hsz;obtain⟨l⟩:=fs;simp[findBy]
 unfold Builtin.Dict.samePairs Builtin.Dict.showsAll;rw[if_neg (show ¬(a==sysModules)=true by rw[ha];decide),if_neg (show ¬(b==sysModules)=true by rw[hb];decide)];refine wpAny_bind (wpAny_pure ?_);refine wpAny_bind (wpAny_pure ?_);refine wpAny_bind (wpAny_dictEntries hoa hda ?_);dsimp only;refine wpAny_bind (wpAny_dictEntries hob hdb ?_);rw[if_neg (by rw[hsz];simp)];refine wpAny_bind (wpAny_dictEpoch hoa hda ?_);refine wpAny_bind ?_;rw[Std.Legacy.Range.forIn_eq_forIn_range'];simp only[Std.Legacy.Range.size,sub_zero,Nat.add_sub_cancel,Nat.div_one];refine wpAny_forIn_list _ (λC9 q t=>t=s/\q=(none,())/\∃i,C9=range' i (es.size-i)/\i<=es.size) _ ?_ ?_ _ _ ⟨rfl,rfl,0,!2,zero_le _⟩
 ·rintro x C9 q t ⟨rfl,rfl,i,hr,hi⟩
  have hlt:i<es.size:=by
   rcases lt_or_ge i es.size with z|z
   ·exact z
   ·rw[Nat.sub_eq_zero_of_le z]at hr;simp at hr
  obtain⟨rfl,hrest⟩:x=i/\C9=range' (i+1) (es.size-(i+1)):=by
   have e:es.size-i=(es.size-(i+1))+1:=by omega
   rw[e,List.range'_succ]at hr;injection hr with z1 z2
   exact⟨z1,z2⟩
  refine wpAny_bind (wpAny_dictEntries hoa hda ?_);rw[Array.getElem?_eq_getElem hlt];have hlt':x<ka.length:=by rw[hla];exact hlt
  obtain⟨k,v,hkv⟩:∃k v,ka[x]=(k,v):=⟨_,_,rfl⟩
  obtain⟨hkey,hval⟩:=hpa.get? (i:=x) (e:=es[x]) (k:=k) (v:=v) (by rw[Array.getElem?_toList,Array.getElem?_eq_getElem hlt]) (by rw[getElem?_eq_getElem hlt',hkv]);obtain⟨k',hk',hh⟩:=hka es[x] (Array.getElem_mem hlt);have ekk:k'=k:=knd.inj _ _ _ hk' hkey;rw[ekk]at hh;obtain⟨y,hy,he⟩:=hits k v (by rw[←hkv];exact getElem_mem hlt');show wpAny _ _ (holding [es[x].key,es[x].val] _ >>= _) _ _ _;rw[hh];refine wpAny_bind (wpAny_holding (wpAny_bind (wpAny_dictFind_of hkey hob hdb hkb ?_)));cases hj:fs.findIdx? λe=>knd.is k e.key with
  |none=>
   have hn:valueAt kb k=none:=by rw[←hfind k,findBy_of_findIdx?,hj]
   rw[hn]at hy;cases hy
  |some j=>
   obtain⟨hjlt,_,_⟩:=Array.findIdx?_eq_some_iff_getElem.mp hj;have hv':valueAt kb k=some fs[j].val:=by
    rw[←hfind k,findBy_of_findIdx?,hj];simp[Array.getElem?_eq_getElem hjlt]
   refine wpAny_bind (wpAny_dictEntries hob hdb ?_);rw[Array.getElem?_eq_getElem hjlt];have ey:fs[j].val=y:=Option.some.inj (hv'.symm.trans hy);rw[←ey,←hval]at he;refine wpAny_holding (he _ _ ?_);show wpAny _ _ (if(!true)=true then _ else _) _ _ _;rw[if_neg (!3)];refine wpAny_bind (wpAny_dictEpoch hoa hda ?_);rw[if_neg (!2)];exact wpAny_pure ⟨rfl,rfl,x+1,hrest,hlt⟩
 ·rintro q t ⟨rfl,rfl,i,hr,hi⟩
  exact wpAny_pure h
theorem DK{Q:Value->Shared->Prop}(ha:(a==sysModules)=false)(hb:(b==sysModules)=false)(da:s.heap.DictOf knd a ka)(db:s.heap.DictOf knd b kb)(hlen:ka.length=kb.length)(hu:A.units<cLine)(hits:fU P w A.in1 s kb ka)(h:Q (.bool true) s):
  wpAny (model P w) A (richCompare .Eq (.ref a) (.ref b)) Q E s:=by
 refine wpAny_richCompare_same_room (op:=.Eq) da.typeIs db.typeIs F.slot_dict_eq (wpAny_call_entry F.slot_dict_eq da.typeIs F.entry_dict_eq ?_ (F.args_dict_eq_2 _ _)) hu;show wpAny _ _ (Builtin.Dict.dictSlotArgs "__eq__" ⟨[.ref a,.ref b],[]⟩ >>= _) _ _ s;refine wpAny_bind ?_;unfold Builtin.Dict.dictSlotArgs;refine wpAny_bind (wpAny_notOrdered_dict da.typeIs ?_);show wpAny _ _ (pure (Value.ref a,Value.ref b)) _ _ s;refine wpAny_pure ?_;refine wpAny_bind (wpAny_isInstance (T:="dict") db.typeIs F.sub_dict_dict ?_);simp only[Bool.not_true,Bool.false_eq_true,if_false];refine wpAny_bind (wpAny_pure ?_);refine wpAny_bind (wpAny_pure ?_);refine wpAny_bind (tJ ha hb da db hlen hits ?_);refine wpAny_pure ⟨_,rfl,⟨(λx=>nomatch x),?_⟩⟩;simpa using h
theorem DL{Q:Value->Shared->Prop}(ha:(a==sysModules)=false)(hb:(b==sysModules)=false)(da:s.heap.DictOf knd a ka)(db:s.heap.DictOf knd b kb)(hlen:ka.length=kb.length)(hu:A.units<cLine)(hits:fU P w A.in1 s kb ka)(h:Q (.bool false) s):
  wpAny (model P w) A (richCompare .NotEq (.ref a) (.ref b)) Q E s:=by
 refine wpAny_richCompare_same_room (op:=.NotEq) da.typeIs db.typeIs F.slot_dict_ne (wpAny_call_entry F.slot_dict_ne da.typeIs F.entry_dict_ne ?_ (F.args_dict_ne_2 _ _)) hu;show wpAny _ _ (Builtin.Dict.dictSlotArgs "__ne__" ⟨[.ref a,.ref b],[]⟩ >>= _) _ _ s;refine wpAny_bind ?_;unfold Builtin.Dict.dictSlotArgs;refine wpAny_bind (wpAny_notOrdered_dict da.typeIs ?_);show wpAny _ _ (pure (Value.ref a,Value.ref b)) _ _ s;refine wpAny_pure ?_;refine wpAny_bind (wpAny_isInstance (T:="dict") db.typeIs F.sub_dict_dict ?_);simp only[Bool.not_true,Bool.false_eq_true,if_false];refine wpAny_bind (wpAny_pure ?_);refine wpAny_bind (wpAny_pure ?_);refine wpAny_bind (tJ ha hb da db hlen hits ?_);refine wpAny_pure ⟨_,rfl,⟨(λx=>nomatch x),?_⟩⟩;simpa using h
end
end Rg
namespace Rg
open PySem PySem.SeqAt L2
theorem DM{K:Type}[DecidableEq K]{k j:K}{v:Value}{r:List (K×Value)}:valueAt ((j,v)::r) k=if j=k then some v else valueAt r k:=by
 unfold valueAt;by_cases h:j=k
 ·simp[h]
 ·simp[h]
section
variable{P:Program}{w:World}{H:Hp}{s:Shared}(hok:HOk P w H s.heap)
include hok
end
end Rg
namespace Rg
open PySem L2
def Th.ty:Th->String
 |.num _=>"int"
 |.word _=>"str"
 |.row _=>"list"
 |.dic _=>"dict"
theorem Rep.ty{K:Frag}{H:Hp}:∀{t:Th}{v:V},Rep H t v->TyOf K H v (.type t.ty)
 |.num i,v,h=>by rw[(h:v=.int i)];exact .int i
 |.word x,v,h=>by rw[(h:v=.str x)];exact .str x
 |.row l,v,h=>by
  obtain⟨a,xs,rfl,h2,_⟩:=(h:∃a xs,v=V.ref a/\H a=some (.lst xs)/\RepR H l xs);exact .lst h2
 |.dic l,v,h=>by
  obtain⟨a,xs,rfl,h2,_⟩:=(h:∃a xs,v=V.ref a/\H a=some (.dK xs)/\RepD H l xs);exact .dK h2
section
variable(K:Frag)
theorem DN:kitOne K (.type "int") (.type "list")=some false:=by kernel_rfl
theorem DO:kitOne K (.type "str") (.type "list")=some false:=by kernel_rfl
theorem tK:kitOne K (.type "dict") (.type "list")=some false:=by kernel_rfl
theorem DP:kitOne K (.type "list") (.type "list")=some true:=by kernel_rfl
theorem DQ:kitOne K (.type "int") (.type "dict")=some false:=by kernel_rfl
theorem DR:kitOne K (.type "str") (.type "dict")=some false:=by kernel_rfl
theorem DS:kitOne K (.type "list") (.type "dict")=some false:=by kernel_rfl
theorem DT:kitOne K (.type "dict") (.type "dict")=some true:=by kernel_rfl
theorem DU:kitOne K (.type "int") (.type "int")=some true:=by kernel_rfl
end
end Rg
namespace Rg
open PySem PySem.Spec PyProof.Rows L2
def DV:Th->Bool
 |.row _=>true
 |_=>false
def P5:Th->Bool
 |.dic _=>true
 |_=>false
theorem cO(K:Frag):∀t:Th,kitOne K (.type t.ty) (.type "list")=some (DV t)
 |.num _=>DN K
 |.word _=>DO K
 |.row _=>DP K
 |.dic _=>tK K
theorem R8(K:Frag):∀t:Th,kitOne K (.type t.ty) (.type "dict")=some (P5 t)
 |.num _=>DQ K
 |.word _=>DR K
 |.row _=>DS K
 |.dic _=>DT K
def tL(K:Frag):List V->Hp->VK->Prop:=λxs H Q=>∃x n t b,xs=[x,.ty n]/\TyOf K H x t/\kitOne K t (.type n)=some b/\Q (.bl b) H
theorem fV{X:Cx}:CallR X (.builtin "isinstance") (tL X.K):=by
 intro ζ s σ H xs us Q I r h;obtain⟨x,n,t,b,rfl,ty,e,q⟩:=h;obtain⟨u,w',rfl,ru,rw'⟩:=qP r;cases rw';exact BZ I ru ty e λtk=>⟨.bl b,H,I.tok tk,rfl,q⟩
structure LcSt(x:Str)(fr:List (Str×Nat))(scope sc:Scope)(N:List Str):Prop where
 nocell:∀y∈scope.names,y.2≠.cell
 kind:scope.kind=.function
 nm:∀y∈scope.names,y.2=.local->scope.names.lookup y.1=some .local
 hx:scope.names.lookup x=some .local
 nd:(jQ x fr).Nodup
 free:∀y∈scope.names,y.2=.free->sc.names.lookup y.1=some .cell∨sc.names.lookup y.1=some .free
 fr:∀p∈fr,N[p.2]?=some p.1/\scope.names.lookup p.1=some .free
theorem LcSt.ok{X:Cx}{x:Str}{fr:List (Str×Nat)}{scope sc:Scope}{N:List Str}(S:LcSt x fr scope sc N)(h1:X.env.scope=sc)(h2:X.N=N):LcOk X x fr scope:=by
 subst h1;subst h2;exact⟨S.nocell,S.kind,S.nm,S.hx,S.nd,S.free,S.fr⟩
def TupsStay(H H':Hp):Prop:=∀p xs,H p=some (.tup xs)->H' p=some (.tup xs)
theorem aR{H H':Hp}(e:Same H H'):TupsStay H H':=λp xs h=>e p _ h
theorem TupsStay.lst{H:Hp}{a:Addr}{xs:List V}{o:HO}(h:H a=some (.lst xs)):TupsStay H (upd H a o):=λp ys q=>by
 rw[A9 (U5 q h (λz=>by cases z))];exact q
theorem TupsStay.trans{H H1 H2:Hp}(a:TupsStay H H1)(b:TupsStay H1 H2):TupsStay H H2:=λp xs h=>b p xs (a p xs h)
theorem kA{α β:Type}{F:α->β->Prop}:∀{xs:List α}{ys:List β},Paired F xs ys->xs≠[]->∃xr x yr y,xs=xr++[x]/\ys=yr++[y]/\Paired F xr yr/\F x y
 |_,_,.nil,h=>absurd rfl h
 |_,_,.cons (a:=a) (b:=b) r .nil,_=>⟨[],a,[],b,rfl,rfl,.nil,r⟩
 |_,_,.cons (a:=a) (b:=b) r (.cons r2 t),_=>by
  obtain⟨xr,x,yr,y,h1,h2,h3,h4⟩:=kA (.cons r2 t) (!2);exact⟨a::xr,x,b::yr,y,by rw[h1];rfl,by rw[h2];rfl,.cons r h3,h4⟩
end Rg
namespace Rg
open PySem PySem.W PySem.Spec PyProof.Rows L2
def tM(K:Frag):List V->Hp->VK->Prop:=λxs H Q=>∃(x:V)(tp:Addr)(ns:List String)(t:Value)(b:Bool),xs=[x,.ref tp]/\H tp=some (.tup (ns.map V.ty))/\TyOf K H x t/\kitAny K t (ns.map Value.type)=some b/\Q (.bl b) H
theorem tN:∀{ns:List String}{us:List Value},Vals (ns.map V.ty) us->us=ns.map Value.type
 |[],_,.nil=>rfl
 |n::r,_,.cons a t=>by
  cases a;rw[tN t];rfl
theorem DW{X:Cx}:CallR X (.builtin "isinstance") (tM X.K):=by
 intro ζ s σ H xs us Q I r h;obtain⟨x,tp,ns,t,b,rfl,htp,ty,e,q⟩:=h;obtain⟨u,w',rfl,ru,rw'⟩:=qP r;cases rw';obtain⟨_,its,rv,⟨o,ho,hc,n,hd⟩⟩:=I.hok tp _ htp;have ei:=tN rv;subst ei;obtain⟨cls,dd,data,sl⟩:=o;simp only at hc hd;subst hc hd;have fin:∀tk,EP X ζ σ Q (.bool b) {s with toks:=tk}:=λtk=>⟨.bl b,H,I.tok tk,rfl,q⟩
 cases ty with
 |non=>cases(show u=Value.none from ru);exact kia_tup kitx_none I.kIn True.intro ho e (λz=>nomatch z) fin
 |bl y=>cases(show u=Value.bool y from ru);exact kia_tup kitx_bool I.kIn True.intro ho e (λz=>nomatch z) fin
 |int i=>obtain⟨t,q⟩:=(show ∃t,u=Value.int i t from ru);cases q;exact kia_tup kitx_int I.kIn True.intro ho e (λz=>nomatch z) fin
 |str y=>obtain⟨t,q⟩:=(show ∃t,u=Value.str y t from ru);cases q;exact kia_tup kitx_str I.kIn True.intro ho e (λz=>nomatch z) fin
 |flt y=>obtain⟨t,q⟩:=(show ∃t,u=Value.float y t from ru);cases q;exact kia_tup kitx_float I.kIn True.intro ho e (λz=>nomatch z) fin
 |@lst a xs ea=>
  cases(show u=Value.ref a from ru);obtain⟨_,_,n,_,h1⟩:=(show ObjOk X.prog X.w H s.heap a (.lst xs)from I.hok a _ ea);exact kia_tup kitx_list I.kIn ⟨_,h1,rfl⟩ ho e (λz=>nomatch z) fin
 |@frz a ob xs ea=>
  cases(show u=Value.ref a from ru);obtain⟨_,_,_,n,_,h1⟩:=(show ObjOk X.prog X.w H s.heap a (.frz ob (.lst xs))from I.hok a _ ea);exact kia_tup kitx_list I.kIn ⟨_,h1,rfl⟩ ho e (λz=>nomatch z) fin
 |@tup a xs ea=>
  cases(show u=Value.ref a from ru);obtain⟨_,_,_,p⟩:=(show ObjOk X.prog X.w H s.heap a (.tup xs)from I.hok a _ ea);obtain⟨o,h1,h2,_⟩:=p;exact kia_tup kitx_tuple I.kIn ⟨o,h1,h2⟩ ho e (λz=>nomatch z) fin
 |@dK a kvs ea=>
  cases(show u=Value.ref a from ru);obtain⟨_,_,vs,_,p⟩:=(show ObjOk X.prog X.w H s.heap a (.dK kvs)from I.hok a _ ea);obtain⟨o,es,ep,h1,h2,_⟩:=p;exact kia_tup kitx_dict I.kIn ⟨o,h1,h2.1⟩ ho e (λz=>nomatch z) fin
 |@dT a kvs ea=>
  cases(show u=Value.ref a from ru);obtain⟨_,_,xs,_,o,es,ep,h1,h2,_⟩:=(show ObjOk X.prog X.w H s.heap a (.dT kvs)from I.hok a _ ea);exact kia_tup kitx_dict I.kIn ⟨o,h1,h2.1⟩ ho e (λz=>nomatch z) fin
 |@ins a C dx fs ea cl ha hn htk hm=>
  cases(show u=Value.ref a from ru);obtain⟨mA,O,_⟩:=cF I.hok ea;obtain⟨od,J,_⟩:=O.look;exact kia_tup (kitx_own (cl.get _) cl.hd ha hn htk hm) I.kIn J ho e (λz=>nomatch z) fin
theorem tO:∀{bs:List Bool}{us:List Value},Vals (bs.map V.bl) us->us=bs.map Value.bool
 |[],_,.nil=>rfl
 |n::r,_,.cons a t=>by
  cases a;rw[tO t];rfl
end Rg
namespace Rg
open PySem PySem.Spec PyProof.Rows L2
section
variable{prog:Program}{w:World}{A:Around}{R:Result->Shared->Prop}{s:Shared}
theorem DX{elt target iter cnd:Expr}{scope:Scope}{pos:Pos}{it acc:Value}{env:Env}(I:Nat->Shared->Prop)
  (turn:∀n t,I n t->wpAny (model prog w) A (pyNext it) (λr s₁=>match r with
   |none=>R (.ok .next) s₁
   |some v=>wpAny (model prog w) A (letOwnedTupleGo target it v) (λ_ s₂=>wpAny (model prog w) A (assign target env v) (λ_ s₃=>wpAny (model prog w) A (isTrue cnd env (eval cnd env)) (λok s₃'=>
     if ok=true then wpAny (model prog w) A (eval elt env) (λy s₄=>wpAny (model prog w) A (call (.builtin "list.append") [acc,y]) (λ_ s₅=>∃m,m<n/\I m s₅) (λ_ _=>False) s₄) (λ_ _=>False) s₃'
     else ∃m,m<n/\I m s₃') (λ_ _=>False) s₃) (λ_ _=>False) s₂) (λ_ _=>False) s₁) (λ_ _=>False) t)
  (n:Nat) (h:I n s):codeAny (model prog w) A (.compLoop (.ListComp elt [⟨target,iter,[cnd],0⟩] scope pos) 0 it acc env) R s:=by
 refine codeAny_loop rfl I (λk t hI=>?_) n h;show wpAny _ _ ((compTurn (.ListComp elt [⟨target,iter,[cnd],0⟩] scope pos) 0 it acc env).onRaise (λx=>do noteFrame x env;theTreesLotGoes x)) _ _ t;refine wpAny_noted ?_;rw[compTurn_list];refine wpAny_bind (wpAny_standAt (wpAny_bind (wpAny_mono (turn k t hI) (λr s₁ h₁=>?_) λ_ _ z=>z.elim)));cases r with
 |none=>exact wpAny_pure h₁
 |some v=>
  refine wpAny_bind (wpAny_mono h₁ (λ_ s₂ h₂=>?_) λ_ _ z=>z.elim);refine wpAny_bind (wpAny_mono h₂ (λ_ s₃ h₃=>wpAny_bind ?_) λ_ _ z=>z.elim);rw[forIn_cons];refine wpAny_bind ?_;rw[if_pos rfl];refine wpAny_bind (wpAny_mono h₃ (λok s₃' h₃'=>wpAny_pure ?_) λ_ _ z=>z.elim);dsimp only;rw[forIn_nil];refine wpAny_pure ?_;cases ok with
  |false=>exact wpAny_pure ⟨rfl,by rw[if_neg Bool.false_ne_true]at h₃';exact h₃'⟩
  |true=>
   rw[if_pos rfl]at h₃';refine wpAny_bind (wpAny_bind (wpAny_mono h₃' (λy s₄ h₄=>?_) λ_ _ z=>z.elim));refine wpAny_bind (wpAny_mono h₄ (λ_ s₅ h₅=>?_) λ_ _ z=>z.elim);exact wpAny_pure (wpAny_pure ⟨rfl,h₅⟩)
end
end Rg
namespace Rg
open PySem PySem.W PySem.Spec PyProof.Rows L2
def Y9(xs:List Str)(fr:List (Str×Nat)):List Str:=xs++fr.map (·.1)
def K9(vs:List (Option V))(fr:List (Str×Nat))(σ:L2.St):L2.St:=vs++fr.map λp=>(σ[p.2]?).getD none
def F7(X:Cx)(xs:List Str)(fr:List (Str×Nat))(scope:Scope)(fp:List Addr)(C:Addr)(s:Shared)(H:Hp):Cx where
 prog:=X.prog
 w:=X.w
 K:=X.K
 mg:=X.mg
 base:=X.base
 A:=X.A
 N:=Y9 xs fr
 s₀:=s
 H₀:=H
 env:=compEnvC scope (aQ X.env.cells scope.names) C X.env
 outer:=X.stack
 stack:=X.stack
 ex:=fp
 fn:=λ_=>false
 calm:=X.calm
 pn:=[]
 xe:=λ_ _=>False
structure LcOkG(X:Cx)(xs:List Str)(fr:List (Str×Nat))(scope:Scope):Prop where
 nocell:∀y∈scope.names,y.2≠.cell
 kind:scope.kind=.function
 nm:∀y∈scope.names,y.2=.local->scope.names.lookup y.1=some .local
 hx:∀x∈xs,scope.names.lookup x=some .local
 nd:(Y9 xs fr).Nodup
 free:∀y∈scope.names,y.2=.free->X.env.scope.names.lookup y.1=some .cell∨X.env.scope.names.lookup y.1=some .free
 fr:∀p∈fr,X.N[p.2]?=some p.1/\scope.names.lookup p.1=some .free
structure LcStG(xs:List Str)(fr:List (Str×Nat))(scope sc:Scope)(N:List Str):Prop where
 nocell:∀y∈scope.names,y.2≠.cell
 kind:scope.kind=.function
 nm:∀y∈scope.names,y.2=.local->scope.names.lookup y.1=some .local
 hx:∀x∈xs,scope.names.lookup x=some .local
 nd:(Y9 xs fr).Nodup
 free:∀y∈scope.names,y.2=.free->sc.names.lookup y.1=some .cell∨sc.names.lookup y.1=some .free
 fr:∀p∈fr,N[p.2]?=some p.1/\scope.names.lookup p.1=some .free
theorem LcStG.ok{X:Cx}{xs:List Str}{fr:List (Str×Nat)}{scope sc:Scope}{N:List Str}(S:LcStG xs fr scope sc N)(h1:X.env.scope=sc)(h2:X.N=N):LcOkG X xs fr scope:=by
 subst h1;subst h2;exact⟨S.nocell,S.kind,S.nm,S.hx,S.nd,S.free,S.fr⟩
abbrev TU:=V->List V->Hp->Prop
def kB:TU:=λv vs _=>vs=[v]
def kD(U:TU)(n:Nat):TG:=λv σ H Q=>∃vs,U v vs H/\vs.length=n/\Q (vs.map some++σ.drop n) H
def aS(X:Cx)(cs:List Expr)(t:TT):Prop:=match cs with
 |[]=>∀σ H Q,t σ H Q->Q true H
 |c::_=>PT X c t
def aT:TT:=λ_ H Q=>Q true H
theorem tP{X:Cx}:aS X [] aT:=λ_ _ _ h=>h
def kE(M:Model)(A:Around)(cs:List Expr)(env:Env)(Q:Bool->Shared->Prop)(s:Shared):Prop:=match cs with
 |[]=>Q true s
 |c::_=>wpAny M A (isTrue c env (eval c env)) Q (λ_ _=>False) s
theorem DY{X:Cx}{cs:List Expr}{tt:TT}{ζ:List (Addr×Obj)}{σ:L2.St}{H:Hp}{s:Shared}{Q:Bool->Hp->Prop}{R:Bool->Shared->Prop}{M:Model}{A:Around}{env:Env}(hT:aS X cs tt)(I:Inv X ζ σ H s)(h:tt σ H Q)(k:∀ok s',TP X ζ σ Q ok s'->R ok s')
  (hM:M=model X.prog X.w:=by rfl) (hA:A=X.A:=by rfl) (he:env=X.env:=by rfl) (hx:X.xe=λ_ _=>False:=by rfl):kE M A cs env R s:=by
 subst hM hA he;cases cs with
 |nil=>exact k true s ⟨H,I,hT σ H Q h⟩
 |cons c r=>
  have z:=(show PT X c tt from hT) ζ s σ H Q I h;rw[hx]at z;exact wpAny_mono z (λok s' q=>k ok s' q) λ_ _ e=>e
def fW(U:TU)(n:Nat)(fr:List (Str×Nat))(tt:TT)(te:TE)(σ:L2.St)(Kf:List V->Hp->Prop)(J:It)(H1:Hp):Prop:=∃W:Nat->Nat->List V->Hp->Prop,(∃m,W 0 m [] H1)/\∀i m ys H,W i m ys H->
 (J.stop i H/\ys.length<=sizeLine/\Kf ys H)∨
 (J.go i H/\ys.length<sizeLine/\∃(N:V->Hp->Prop)(M:Hp->Prop),(∀y H2,N y H2->∃m',m'<m/\W (i+1) m' (ys++[y]) H2)/\(∀H2,M H2->∃m',m'<m/\W (i+1) m' ys H2)/\
  ∀v H',J.yld i H v H'->∃vs,U v vs H'/\vs.length=n/\tt (K9 (vs.map some) fr σ) H' λok H2=>if ok=true then te (K9 (vs.map some) fr σ) H2 N else M H2)
def kH(U:TU)(n:Nat)(fr:List (Str×Nat))(wi:TI)(tt:TT)(te:TE):TE:=fun σ H Q=>wi σ H (fW U n fr tt te σ λys H=>∀p,H p=none->Q (.ref p) (upd H p (.lst ys)))
section
variable{prog:Program}{w:World}{A:Around}{R:Result->Shared->Prop}{s:Shared}
theorem DZ{elt target iter:Expr}{cs:List Expr}{scope:Scope}{pos:Pos}{it acc:Value}{env:Env}(hcs:cs=[]∨∃c,cs=[c])(I:Nat->Shared->Prop)
  (turn:∀n t,I n t->wpAny (model prog w) A (pyNext it) (λr s₁=>match r with
   |none=>R (.ok .next) s₁
   |some v=>wpAny (model prog w) A (letOwnedTupleGo target it v) (λ_ s₂=>wpAny (model prog w) A (assign target env v) (λ_ s₃=>kE (model prog w) A cs env (λok s₃'=>
     if ok=true then wpAny (model prog w) A (eval elt env) (λy s₄=>wpAny (model prog w) A (call (.builtin "list.append") [acc,y]) (λ_ s₅=>∃m,m<n/\I m s₅) (λ_ _=>False) s₄) (λ_ _=>False) s₃'
     else ∃m,m<n/\I m s₃') s₃) (λ_ _=>False) s₂) (λ_ _=>False) s₁) (λ_ _=>False) t)
  (n:Nat) (h:I n s):codeAny (model prog w) A (.compLoop (.ListComp elt [⟨target,iter,cs,0⟩] scope pos) 0 it acc env) R s:=by
 rcases hcs with rfl|⟨c,rfl⟩
 ·refine Dk I (λn t hI=>wpAny_mono (turn n t hI) (λr s₁ h₁=>?_) λ_ _ e=>e) n h
  cases r with
  |none=>exact h₁
  |some v=>
   refine wpAny_mono h₁ (λ_ s₂ h₂=>wpAny_mono h₂ (λ_ s₃ h₃=>?_) λ_ _ e=>e) λ_ _ e=>e
   have z:=h₃;unfold kE at z;dsimp only at z;rw[if_pos rfl]at z;exact z
 ·exact DX I turn n h
end
section
variable{X:Cx}{elt iter tg:Expr}{cs:List Expr}{xs:List Str}{pos:Pos}{scope:Scope}{fr:List (Str×Nat)}{wi:TI}{te:TE}{tt:TT}{U:TU}
theorem Ea{pos2:Pos}{use:Option (Value->Sem Unit)}{Q0:Value->Shared->Prop}{ζ:List (Addr×Obj)}{s:Shared}{σ:L2.St}{H:Hp}{Kf:List V->Hp->Prop}(hc:X.calm=true)(hcs:cs=[]∨∃c,cs=[c])(hi:PI X tg iter wi)(S:LcOkG X xs fr scope)
  (hg:∀fp C s H,PG (F7 X xs fr scope fp C s H) tg (kD U xs.length)) (hT:∀fp C s H,aS (F7 X xs fr scope fp C s H) cs tt) (he:∀fp C s H,PE (F7 X xs fr scope fp C s H) elt te)
  (hs:∀v,foldedSetIterable iter X.env v=pure v) (I:Inv X ζ σ H s) (h:wi σ H (fW U xs.length fr tt te σ Kf))
  (fin:∀(t1:Shared)(D C:Addr)(H':Hp)(ys:List V),H' D=none->Kf ys H'->Inv X ζ σ (upd H' D (.lst ys)) t1->E7 X ζ (upd H' D (.lst ys)) C->(∃m,t1.heap.Ns C m)->compPost (model X.prog X.w) X.A X.xe use Q0 (.ref D) C (.ok .next) t1):
  wpAny (model X.prog X.w) X.A (comprehension (.ListComp elt [⟨tg,iter,cs,0⟩] scope pos) scope X.env pos2 (newList []) false (eval iter X.env) use) Q0 X.xe s:=by
 have hcell:∀p∈scope.names,p.2=.free->∃c,X.env.cells.lookup p.1=some c:=λp hp hk=>I.ok.has p.1 (S.free p hp hk)
 have hsub:∀y c,(aQ X.env.cells scope.names).lookup y=some c->X.env.cells.lookup y=some c:=sV scope.names [] hcell (λy c z=>by simp at z)
 refine wpAny_comprehension_free (use:=use) rfl hs (Df hcell) S.kind S.nm ?_;refine A7 (hi ζ s σ H _ I h) λv s1 h1=>A7 h1 λitv s2 h2=>?_
 obtain⟨it,fp,tn,J,H2,e,I2,T,st2,f2,W,⟨m0,w0⟩,turn⟩:=h2;subst e;refine wpAny_newObj_type (wpAny_newFunctionEnv S.nocell (by intro y hy;simp at hy) (λh₁ hns₁ hsb₁=>?_) S.kind);dsimp only at hns₁ hsb₁ ⊢;generalize hP:s2.heap.push {cls:=.type "list",dict:=none,data:=.seq ([]:List Value).toArray}=P at hns₁ hsb₁ ⊢;have hC:P.objs.size=s2.heap.objs.size+1:=by rw[←hP,Heap.size_push]
 have hDC:s2.heap.objs.size≠P.objs.size:=by rw[hC];exact ne_of_lt (lt_succ_self _)
 have hCle:s2.heap.objs.size<=P.objs.size:=by rw[hC];exact le_succ _
 have lt2:∀b,b<s2.heap.objs.size->b≠P.objs.size/\b≠s2.heap.objs.size:=λb hb=>⟨by rw[hC];exact ne_of_lt (lt_succ_of_lt hb),ne_of_lt hb⟩
 have old:∀b o,s2.heap.get? b=some o->h₁.get? b=some o:=λb o q=>
  (hsb₁.2 b (lt2 b (Heap.lt_size q)).1).trans (Heap.get?_push_of_some _ (by rw[←hP];exact Heap.get?_push_of_some _ q))
 have hacc:h₁.get? s2.heap.objs.size=some {cls:=.type "list",data:=.seq ([]:List Value).toArray}:=
  (hsb₁.2 _ hDC).trans (Heap.get?_push_of_some _ (by rw[←hP];exact Heap.get?_push_size _ rfl))
 have hD2:H2 s2.heap.objs.size=none:=I2.hok.fresh (le_refl _);have hC2:H2 P.objs.size=none:=I2.hok.fresh hCle;have hfplt:∀b∈fp,b<s2.heap.objs.size:=λb hb=>by
  obtain⟨o,q,_⟩:=T.obj 0 _ st2 b hb;exact Heap.lt_size q
 have hstk:∀b∈N4 X.stack,b<s2.heap.objs.size:=λb hb=>by
  obtain⟨_,o,q,_⟩:=I2.stack.mem hb;exact Heap.lt_size q
 have okY:(F7 X xs fr scope fp P.objs.size s2 H2).Ok:=by
  refine⟨I2.ok.mod,?_,I2.ok.glob,I2.ok.blt,hCle,?_,?_,?_,I2.ok.hd,I2.ok.frames,.inl rfl,?_,I2.bs,le_trans I2.ok.bsz I2.sz,?_,?_,I2.stack,I2.stkFree⟩
  ·exact S.kind
  ·exact λy z c h1 h2=>I2.ok.inj y z c (hsub y c h1) (hsub z c h2)
  ·intro y hy
   have hf:scope.names.lookup y=some .free:=Dh S.nocell hy;exact isSome_iff_exists.mp (jO (cells:=X.env.cells) (y:=y) scope.names [] (.inl (PySem.mem_of_lookup hf)))
  ·intro y c hf
   exact absurd (show false=true from hf) (!3)
  ·intro b hb
   obtain⟨_,_,_,_,f4,_⟩:=f2 b hb;exact⟨(lt2 b (hfplt b hb)).1,λy c q=>f4 y c (hsub y c q)⟩
  ·intro b o q hb
   obtain⟨_,_,_,f3,_,_⟩:=f2 b hb;rcases f3 with z|z
   ·exact I2.ok.noex b o q z
   ·exact absurd (lt_of_lt_of_le (Heap.lt_size q) (le_trans I2.ok.bsz z)) (lt_irrefl _)
  ·intro b hb hz
   obtain⟨_,f1,f2',_⟩:=f2 b hb;rcases mem_cons.mp (I2.stkSub b hz)with z|z
   ·exact f1 z
   ·exact f2' z
 let own (us:List Value) (k:Nat):Addr×Obj:=(s2.heap.objs.size,{cls:=.type "list",data:=.seq us.toArray k})
 have pinD:∀(us:List Value)(k:Nat)(t:Shared)(H':Hp),t.heap.get? s2.heap.objs.size=some {cls:=.type "list",data:=.seq us.toArray k}->H' s2.heap.objs.size=none->
   t.heap.get? (own us k).1=some (own us k).2/\H' (own us k).1=none/\(own us k).1≠(F7 X xs fr scope fp P.objs.size s2 H2).env.locals/\(own us k).1∉(F7 X xs fr scope fp P.objs.size s2 H2).fs/\∀v,(own us k).2.data≠.cell v:=
  λus k t H' q n=>⟨q,n,hDC,λz=>absurd (hstk _ z) (lt_irrefl _),λv z=>nomatch z⟩
 have I4:Inv (F7 X xs fr scope fp P.objs.size s2 H2) [own [] 0] (K9 (xs.map λ_=>none) fr σ) H2 {s2 with heap:=h₁,toks:=s2.toks+([]:List (Str×Value)).length}:=by
  refine⟨okY,rfl,I2.bare,Un.kept old,⟨_,hns₁,λi y v q1 q2 q3=>?_⟩,λy c q=>?_,hC2,λy c q=>I2.freeC y c (hsub y c q),λp hp=>?_,I2.hok.kept old,?_⟩
  ·have lx:(xs.map λ_=>(none:Option V)).length=xs.length:=length_map _
   rcases lt_or_ge i xs.length with hlt|hge
   ·have q2':(xs.map λ_=>(none:Option V))[i]?=some (some v):=by
     rw[←getElem?_append_left (by rw[lx];exact hlt)];exact q2
    rw[getElem?_map]at q2';cases ez:xs[i]? with
    |none=>rw[ez]at q2';cases q2'
    |some z=>rw[ez]at q2';cases q2'
   ·obtain⟨j,rfl⟩:∃j,i=xs.length+j:=⟨i-xs.length,!1⟩
    have q1':(fr.map (·.1))[j]?=some y:=by
     have z:(xs++fr.map (·.1))[xs.length+j]?=some y:=q1;rw[getElem?_append_right (!1),add_sub_cancel_left]at z;exact z
    have q2':(fr.map λp=>(σ[p.2]?).getD none)[j]?=some (some v):=by
     have z:((xs.map λ_=>(none:Option V))++fr.map λp=>(σ[p.2]?).getD none)[xs.length+j]?=some (some v):=q2;rw[getElem?_append_right (by rw[lx];omega),lx,add_sub_cancel_left]at z;exact z
    rw[getElem?_map]at q1' q2';cases ef:fr[j]? with
    |none=>rw[ef]at q1';cases q1'
    |some p=>
     rw[ef]at q1' q2';have e1:p.1=y:=Option.some.inj q1';have e2:(σ[p.2]?).getD none=some v:=Option.some.inj q2';obtain⟨n1,n2⟩:=S.fr p (mem_of_getElem? ef);rw[e1]at n1 n2;have e3:σ[p.2]?=some (some v):=by
      cases ez:σ[p.2]? with
      |none=>rw[ez]at e2;cases e2
      |some z=>rw[ez]at e2;exact congrArg some e2
     have kX:=S.free _ (PySem.mem_of_lookup n2) rfl;obtain⟨m,hm,hl⟩:=I2.loc;obtain⟨u,ru,lk⟩:=hl p.2 y v n1 e3 (.inr kX);refine⟨u,ru,.inr ⟨Dg n2,?_⟩⟩;rcases lk with⟨k1,_⟩|⟨_,c,q,ic⟩
     ·have k1':X.env.scope.names.lookup y=some .local:=k1
      rcases kX with kX|kX
      ·exact absurd (k1'.symm.trans kX) (!2)
      ·exact absurd (k1'.symm.trans kX) (!2)
     ·obtain⟨c',hc'⟩:=isSome_iff_exists.mp (jO (cells:=X.env.cells) (y:=y) scope.names [] (.inl (PySem.mem_of_lookup n2)))
      have e4:c'=c:=Option.some.inj ((hsub y c' hc').symm.trans q);subst e4;obtain⟨oc,g1,g2⟩:=ic;exact⟨c',hc',oc,old _ _ g1,g2⟩
  ·obtain⟨z,oc,g1,g2⟩:=I2.cell y c (hsub y c q)
   exact⟨z,oc,old _ _ g1,g2⟩
  ·have e:p=own [] 0:=by simpa [F7]using hp
   subst e;exact pinD [] 0 {s2 with heap:=h₁,toks:=s2.toks+([]:List (Str×Value)).length} H2 hacc hD2
  ·show(K9 (xs.map λ_=>none) fr σ).length=(Y9 xs fr).length
   unfold K9 Y9;rw[length_append,length_append,length_map,length_map,length_map]
 have statY:∀{H':Hp}{us:List Value}{k:Nat},(∀b∈fp,H' b=none)->∀b∈fp,E7 (F7 X xs fr scope fp P.objs.size s2 H2) [own us k] H' b:=λ{H' us k} hn b hb=>by
  obtain⟨_,f1,f2',f3,f4,f5⟩:=f2 b hb;refine⟨hn b hb,(lt2 b (hfplt b hb)).1,okY.exfs b hb,.inl hb,λy c q=>f4 y c (hsub y c q),λp hp z=>?_⟩;have e:p=own us k:=by simpa [F7]using hp
  subst e;exact(lt2 b (hfplt b hb)).2 z.symm
 have loop:∀s₃:Shared,s₃={s2 with heap:=h₁,toks:=s2.toks+([]:List (Str×Value)).length}->
   codeAny (model X.prog X.w) X.A (.compLoop (.ListComp elt [⟨tg,iter,cs,0⟩] scope pos) 0 (.ref it) (.ref s2.heap.objs.size) (compEnvC scope (aQ X.env.cells scope.names) P.objs.size X.env))
    (compPost (model X.prog X.w) X.A X.xe use Q0 (.ref s2.heap.objs.size) P.objs.size) s₃:=by
  rintro s₃ rfl;refine DZ hcs (λn t=>∃i ys us k H',Inv (F7 X xs fr scope fp P.objs.size s2 H2) [own us k] (K9 (xs.map λ_=>none) fr σ) H' t/\Vals ys us/\tn i t.heap/\(∀b∈fp,H' b=none)/\W i n ys H') ?_ m0
   ⟨0,[],[],0,H2,I4,.nil,T.keep _ _ _ st2 λb hb o q=>old b o q,λb hb=>(f2 b hb).1,w0⟩
  rintro n t ⟨i,ys,us,k,H',It,rv,st,frs',w1⟩;have hDn:H' s2.heap.objs.size=none:=(It.pin (own us k) (by simp[F7])).2.1;have hDo:t.heap.get? s2.heap.objs.size=some {cls:=.type "list",data:=.seq us.toArray k}:=(It.pin (own us k) (by simp[F7])).1;rcases turn i n ys H' w1 with⟨stop,zl,qn⟩|⟨go,zl,N,M,hN,hM,step⟩
  ·refine A7 (T.done (F7 X xs fr scope fp P.objs.size s2 H2) rfl rfl rfl hc i _ t _ H' _ It (statY frs') st stop) λr t1 ⟨hr,I1⟩=>?_
   subst hr;have hDo1:t1.heap.get? s2.heap.objs.size=some {cls:=.type "list",data:=.seq us.toArray k}:=(I1.pin (own us k) (by simp[F7])).1;have hCn:H' P.objs.size=none:=I1.free;refine fin t1 _ _ H' ys hDn qn ?_ (I2.fpOk hCle (by rw[A9 (Ne.symm hDC)];exact hCn)) (let⟨m,hns,_⟩:=I1.loc;⟨m,hns⟩);have sb:Heap.SameBut P.objs.size t1.heap t1.heap:=.refl _ _;refine I2.call' (s':=t1) (ch:=fp) I1.os (sX I1.base hCle (le_refl _) hDn sb) ?_ I1.bare λb hb=>?_
   ·intro a o q
    by_cases ha:a=s2.heap.objs.size
    ·subst ha
     rw[A6]at q;cases q;exact⟨zl,us,k,rv,(sb.2 _ hDC).trans hDo1⟩
    ·rw[A9 ha]at q
     refine(I1.hok a o q).stay (λb u hb q'=>(sb.2 b ?_).trans q') (λb z=>?_) λb xs z=>?_
     ·rcases hb with rfl|hb
      ·exact E6 q I1.free
      ·exact E6 hb I1.free
     ·rw[A9 (E6 z hDn)];exact z
     ·rw[A9 (E6 z hDn)];exact z
   ·obtain⟨_,f1,_,f3,f4,f5⟩:=f2 b hb
    exact⟨f3,f1,f4,f5⟩
  ·refine A7 (T.item (F7 X xs fr scope fp P.objs.size s2 H2) rfl rfl rfl hc i _ t _ H' _ It (statY frs') st go) λr t1 ⟨u,hr,h4⟩=>?_
   subst hr;refine A7 h4 λ_ t2 ⟨v,H5,I5,r5,y5,st5,fr5⟩=>?_
   have I5':=I5.pinned (statY fr5) (T.obj _ _ st5);obtain⟨vs,hU,hvl,st6⟩:=step v H5 y5;refine A7 (hg fp P.objs.size s2 H2 _ t2 _ H5 v u (fun σ' H6=>σ'=K9 (vs.map some) fr σ/\H6=H5) I5' r5 ⟨vs,hU,hvl,by
    unfold K9;rw[List.drop_left' (by rw[length_map])],rfl⟩) λ_ t3 ⟨σ6,H6,I6,e6,e7⟩=>?_
   subst e6;subst e7;have wk:∀j z,(K9 (xs.map λ_=>none) fr σ)[j]?=some (some z)->(K9 (vs.map some) fr σ)[j]?=some (some z):=λj z hz=>by
    have lx:(xs.map λ_=>(none:Option V)).length=xs.length:=length_map _;have lv:(vs.map (some (α:=V))).length=xs.length:=by rw[length_map];exact hvl
    unfold K9 at hz ⊢;rcases lt_or_ge j xs.length with hlt|hge
    ·rw[getElem?_append_left (by rw[lx];exact hlt),getElem?_map]at hz
     cases ez:xs[j]? with
     |none=>rw[ez]at hz;cases hz
     |some z=>rw[ez]at hz;cases hz
    ·rw[getElem?_append_right (by rw[lx];exact hge),lx]at hz
     rw[getElem?_append_right (by rw[lv];exact hge),lv];exact hz
   have wl:(K9 (xs.map λ_=>none) fr σ).length=(K9 (vs.map some) fr σ).length:=by
    unfold K9;rw[length_append,length_append,length_map,length_map (some (α:=V)),hvl]
   refine DY (hT fp P.objs.size s2 H2) I6 st6 λok t3' ⟨H6',I6',q6⟩=>?_
   cases ok with
   |false=>
    obtain⟨m',hm,w7⟩:=hM H6' q6;rw[if_neg Bool.false_ne_true];have pf:∀b∈fp,∃o,t2.heap.get? b=some o/\t3'.heap.get? b=some o/\H6' b=none:=λb hb=>by
     obtain⟨o,q,_⟩:=T.obj _ _ st5 b hb;have z:=I6'.pin (b,o) (mem_append_right _ (mem_append_right _ (eU hb q)));exact⟨o,q,z.1,z.2.1⟩
    have hDo4:t3'.heap.get? s2.heap.objs.size=some {cls:=.type "list",data:=.seq us.toArray k}:=(I6'.pin (own us k) (by simp[F7])).1;have hDn4:H6' s2.heap.objs.size=none:=(I6'.pin (own us k) (by simp[F7])).2.1;have I9:=(I6'.pins_of (ζ':=[]) (λp hp=>absurd hp (!2))).weak (σ':=K9 (xs.map λ_=>none) fr σ) wl wk;refine⟨m',hm,i+1,ys,us,k,H6',I9.pins_of λp hp=>?_,rv,?_,?_,w7⟩
    ·have e:p=own us k:=by simpa using hp
     subst e;exact pinD _ _ _ H6' hDo4 hDn4
    ·refine T.keep _ _ _ st5 λb hb o q=>?_
     obtain⟨o',q1,q2,_⟩:=pf b hb;rw[q]at q1;cases q1;exact q2
    ·exact λb hb=>by
      obtain⟨_,_,_,q3⟩:=pf b hb;exact q3
   |true=>
    rw[if_pos rfl];refine A7 (he fp P.objs.size s2 H2 _ t3' _ H6' _ I6' q6) λyv t4 ⟨y,H7,I7,r7,n7⟩=>?_
    obtain⟨m',hm,w7⟩:=hN y H7 n7;have hDo4:t4.heap.get? s2.heap.objs.size=some {cls:=.type "list",data:=.seq us.toArray k}:=(I7.pin (own us k) (by simp[F7])).1;have hDn4:H7 s2.heap.objs.size=none:=(I7.pin (own us k) (by simp[F7])).2.1;have hlen:us.length<sizeLine:=by rw[←rv.length];exact zl
    refine call_meets F.slot_list_append ⟨_,hDo4,rfl⟩ F.entry_list_append (F.args_list_append_2 _ _) (list_append s2.heap.objs.size us.toArray k yv (by rw[size_toArray];omega)) ⟨hDo4,?_⟩;have hup:=PySem.IsL.update hDo4 (·.push yv);have hea:us.toArray.push yv=(us++[yv]).toArray:=by simp
    rw[hea]at hup;have pf:∀b∈fp,∃o,t2.heap.get? b=some o/\t4.heap.get? b=some o/\H7 b=none:=λb hb=>by
     obtain⟨o,q,_⟩:=T.obj _ _ st5 b hb;have z:=I7.pin (b,o) (mem_append_right _ (mem_append_right _ (eU hb q)));exact⟨o,q,z.1,z.2.1⟩
    have I8:=(I7.pins_of (ζ':=[]) (λp hp=>absurd hp (!2))).turned (it:=s2.heap.objs.size) (h':=t4.heap.update s2.heap.objs.size (Obj.mapSeq (·.push yv))) (t':=t4.toks)
     (λb o hb q=>(Heap.get?_update_other t4.heap (Obj.mapSeq (·.push yv)) (Ne.symm hb)).trans q) hDn4 hDC (.inr (le_refl _))
     (λz c q hz=>by
      obtain⟨_,oc,g1,_⟩:=I2.cell z c (hsub z c q);exact absurd (Heap.lt_size g1) (by rw[hz];exact lt_irrefl _))
     (λp hp=>absurd (show p∈([]:List (Addr×Obj))from hp) (!2))
    have I9:=I8.weak (σ':=K9 (xs.map λ_=>none) fr σ) wl wk;refine⟨m',hm,i+1,ys++[y],us++[yv],(if((us++[yv]).toArray.size==us.toArray.size)=true then k else k+1),H7,I9.pins_of λp hp=>?_,rv.append (.cons r7 .nil),?_,?_,w7⟩
    ·have e:p=own (us++[yv]) (if((us++[yv]).toArray.size==us.toArray.size)=true then k else k+1):=by simpa using hp
     subst e;exact pinD _ _ _ H7 hup hDn4
    ·refine T.keep _ _ _ st5 λb hb o q=>?_
     obtain⟨o',q1,q2,_⟩:=pf b hb;rw[q]at q1;cases q1;exact(Heap.get?_update_other t4.heap (Obj.mapSeq (·.push yv)) (Ne.symm (lt2 b (hfplt b hb)).2)).trans q2
    ·exact λb hb=>by
      obtain⟨_,_,_,q3⟩:=pf b hb;exact q3
 exact codeAny_compStart_list (loop _ rfl) (T.self X.A 0 _ _ _ (T.keep _ _ _ st2 λb hb o q=>old b o q) (loop _ rfl))
theorem Eb(hc:X.calm=true)(hcs:cs=[]∨∃c,cs=[c])(hi:PI X tg iter wi)(S:LcOkG X xs fr scope)
  (hg:∀fp C s H,PG (F7 X xs fr scope fp C s H) tg (kD U xs.length)) (hT:∀fp C s H,aS (F7 X xs fr scope fp C s H) cs tt) (he:∀fp C s H,PE (F7 X xs fr scope fp C s H) elt te)
  (hs:∀v,foldedSetIterable iter X.env v=pure v:=by intro _;rfl):PE X (.ListComp elt [⟨tg,iter,cs,0⟩] scope pos) (kH U xs.length fr wi tt te):=by
 intro ζ s σ H Q I h;rw[eval_ListComp];exact Ea hc hcs hi S hg hT he hs I h λt1 D C H' ys hD k IX fC ⟨m,hns⟩=>⟨m,hns,λh' sb=>⟨.ref D,_,W4 (t':=t1.toks) IX fC (λc o hc e=>(sb.2 c hc).trans e),rfl,k D hD⟩⟩
end
section
variable{X:Cx}{xs:List Str}{fr:List (Str×Nat)}{scope:Scope}
theorem Ec{x:Str}{px:Pos}(S:LcOkG X [x] fr scope):∀fp C s H,PG (F7 X [x] fr scope fp C s H) (.Name x px) (kD kB 1):=λfp C s H0 ζ s1 σ H v u Q I r h=>by
 obtain⟨vs,hU,_,q⟩:=h;have hU':vs=[v]:=hU;subst hU';have hx:=S.hx x mem_cons_self;have hg:PG (F7 X [x] fr scope fp C s H0) (.Name x px) (cD 0):=pU (i:=0) S.nd rfl (.inl (lookup_relabel_local hx)) (.inr (lookup_relabel_local hx));refine hg ζ s1 σ H v u Q I r ?_;have hl:σ.length=(Y9 [x] fr).length:=I.len;cases σ with
 |nil=>unfold Y9 at hl;simp at hl
 |cons a b=>exact q
end
end Rg
namespace Rg
open PySem PySem.W PyProof.Rows
def J9{α:Type}(lt:Nat->Nat->Bool):KasT α->α
 |.ret a=>a
 |.ask i j k=>J9 lt (k (lt i j))
theorem tQ{α:Type}{lt:Nat->Nat->Bool}{n:Nat}{P:α->Prop}:∀{t:KasT α},KOk n P t->P (J9 lt t)
 |.ret _,h=>h
 |.ask i j k,h=>tQ (t:=k (lt i j)) (h.2.2 _)
def K0(i j:Int):Ordering:=if i=j then .eq else if i<j then .lt else .gt
def K1(x y:Str):Ordering:=if x=y then .eq else if x.cps.toList<y.cps.toList then .lt else .gt
def M4(x y:Str):Ordering:=(K0 x.length y.length).then (K1 x y)
def B1(x y:Str):Bool:=M4 x y==.lt
def Z0(xs:List Str):List Nat:=if xs.length<2 then List.range xs.length else(J9 (λi j=>B1 (xs.getD i Str.empty) (xs.getD j Str.empty)) (kas_sort xs.length)).toList
def B8(xs:List Str):List Str:=(Z0 xs).map λi=>xs.getD i Str.empty
theorem Ed(xs:List Str):(Z0 xs).Perm (List.range xs.length):=by
 unfold Z0;split
 ·exact List.Perm.refl _
 ·rename_i h
  exact tQ (P:=Pm xs.length) (Dm (!1))
theorem tR(xs:List Str):(List.range xs.length).map (λi=>xs.getD i Str.empty)=xs:=by
 apply ext_getElem
 ·simp
 ·intro i q1 q2
  simp[getD_eq_getElem?_getD,getElem?_eq_getElem q2]
theorem N6(xs:List Str):(B8 xs).Perm xs:=by
 have z:=(Ed xs).map λi=>xs.getD i Str.empty
 rw[tR]at z;exact z
theorem Ee(i:Int):K0 i i=.eq:=by unfold K0;rw[if_pos rfl]
theorem Ef(i j:Int):K0 j i=(K0 i j).swap:=by
 unfold K0;by_cases e:i=j
 ·rw[if_pos e,if_pos e.symm];rfl
 ·rw[if_neg e,if_neg (Ne.symm e)]
  by_cases l:i<j
  ·rw[if_pos l,if_neg (!1)];rfl
  ·rw[if_neg l,if_pos (!1)];rfl
theorem Eg(x:Str):K1 x x=.eq:=by unfold K1;rw[if_pos rfl]
theorem tS{x y:Str}(h:K1 x y=.eq):x=y:=by
 unfold K1 at h;by_cases e:x=y
 ·exact e
 ·rw[if_neg e]at h
  by_cases l:x.cps.toList<y.cps.toList
  ·rw[if_pos l]at h;cases h
  ·rw[if_neg l]at h;cases h
theorem Eh{x y:Str}(h:x.cps.toList=y.cps.toList):x=y:=by
 obtain⟨⟨a⟩⟩:=x;obtain⟨⟨b⟩⟩:=y;have e:a=b:=h;rw[e]
theorem fX(x y:Str):K1 y x=(K1 x y).swap:=by
 unfold K1;by_cases e:x=y
 ·rw[if_pos e,if_pos e.symm];rfl
 ·rw[if_neg e,if_neg (Ne.symm e)]
  by_cases l:x.cps.toList<y.cps.toList
  ·rw[if_pos l,if_neg (List.lt_asymm l)];rfl
  ·rw[if_neg l]
   have l2:y.cps.toList<x.cps.toList:=byContradiction λn=>e (Eh (List.le_antisymm n l))
   rw[if_pos l2];rfl
theorem Ei(a b:Ordering):(a.then b).swap=a.swap.then b.swap:=by cases a<;>rfl
theorem Ej{a b:Ordering}(h:a.then b=.eq):a=.eq/\b=.eq:=by cases a<;>cases b<;>first|exact⟨rfl,rfl⟩|cases h
theorem IV(a b c:Ordering):(a.then b).then c=a.then (b.then c):=by cases a<;>rfl
theorem tT(x:Str):M4 x x=.eq:=by unfold M4;rw[Ee,Eg];rfl
theorem Ek{x y:Str}(h:M4 x y=.eq):x=y:=tS (Ej h).2
theorem kI(x y:Str):M4 y x=(M4 x y).swap:=by unfold M4;rw[Ei,←Ef,←fX]
inductive Own where
 |num (i:Int)
 |word (x:Str)
 |row
 |dic
def Own.sort:Own->Int
 |.num _=>0
 |.word _=>1
 |.row=>2
 |.dic=>3
def tU(i:Int):Int:=if i<0 then 1 else 0
def Own.in1:Own->Own->Ordering
 |.num i,.num j=>(K0 i.natAbs j.natAbs).then (K0 (tU i) (tU j))
 |.word x,.word y=>M4 x y
 |_,_=>.eq
def Own.cmp(a b:Own):Ordering:=(K0 a.sort b.sort).then (a.in1 b)
structure Kt where
 f:Str
 n:Nat
 own:Own
def Kt.cmp(a b:Kt):Ordering:=(M4 a.f b.f).then ((K0 a.n b.n).then (a.own.cmp b.own))
def Th.own:Th->Own
 |.num i=>.num i
 |.word x=>.word x
 |.row _=>.row
 |.dic _=>.dic
theorem tV(t:Th):1<=t.size:=by cases t<;>(unfold Th.size;omega)
end Rg
namespace Rg
open PySem
def Ts.fld(k:Str):Ts->Th
 |.nil=>.num 0
 |.cons j t r=>if j=k then t else r.fld k
def Ts.ofL:List (Str×Th)->Ts
 |[]=>.nil
 |p::r=>.cons p.1 p.2 (Ts.ofL r)
def Ts.toL:Ts->List (Str×Th)
 |.nil=>[]
 |.cons k t r=>(k,t)::r.toL
theorem cP:∀(l:Ts){k:Str},k∈l.keys->l.get k=some (l.fld k)
 |.nil,k,h=>by cases h
 |.cons j t r,k,h=>by
  unfold Ts.get Ts.fld;by_cases e:j=k
  ·simp[e]
  ·have h':k∈j::r.keys:=h
   rcases mem_cons.mp h' with z|z
   ·exact absurd z.symm e
   ·simp[e,cP r z]
theorem cQ:∀l:List (Str×Th),(Ts.ofL l).toL=l
 |[]=>rfl
 |p::r=>by unfold Ts.ofL Ts.toL;rw[cQ r]
theorem kJ:∀l:Ts,Ts.ofL l.toL=l
 |.nil=>rfl
 |.cons k t r=>by unfold Ts.toL Ts.ofL;rw[kJ r]
theorem cR:∀l:Ts,l.toL.length=l.len
 |.nil=>rfl
 |.cons k t r=>by unfold Ts.toL Ts.len;rw[length_cons,cR r]
theorem tW:∀l:Ts,l.toL.map (·.1)=l.keys
 |.nil=>rfl
 |.cons k t r=>by unfold Ts.toL Ts.keys;rw[map_cons,tW r]
theorem aU:∀l:Ts,l.size=(l.toL.map λp=>p.2.size).sum
 |.nil=>rfl
 |.cons k t r=>by unfold Ts.toL Ts.size;rw[map_cons,sum_cons,aU r]
mutual
def B6:Th->Th
 |.num i=>.num i
 |.word x=>.word x
 |.row l=>.row (G5 l)
 |.dic l=>.dic (Ts.ofL ((B8 l.keys).map λk=>(k,(D9 l).fld k)))
def G5:Ts->Ts
 |.nil=>.nil
 |.cons _ t r=>.cons Str.empty (B6 t) (G5 r)
def D9:Ts->Ts
 |.nil=>.nil
 |.cons k t r=>.cons k (B6 t) (D9 r)
end
theorem cS:∀(l:Ts){k:Str},k∈l.keys->(D9 l).fld k=B6 (l.fld k)
 |.nil,k,h=>by cases h
 |.cons j t r,k,h=>by
  unfold D9 Ts.fld;by_cases e:j=k
  ·rw[if_pos e,if_pos e]
  ·rw[if_neg e,if_neg e]
   have h':k∈j::r.keys:=h;rcases mem_cons.mp h' with z|z
   ·exact absurd z.symm e
   ·exact cS r z
theorem fY:∀l:Ts,(G5 l).toL=l.toL.map λp=>(Str.empty,B6 p.2)
 |.nil=>by unfold G5;rfl
 |.cons k t r=>by unfold G5 Ts.toL;rw[map_cons,fY r]
def E1:Th->List (Str×Th)
 |.row l=>l.toL.map λp=>(Str.empty,p.2)
 |.dic l=>(B8 l.keys).map λk=>(k,l.fld k)
 |_=>[]
def tX:Th->List (Str×Th)
 |.row l=>l.toL
 |.dic l=>l.toL
 |_=>[]
theorem fZ:∀(l:Ts),l.keys.Nodup->l.keys.map (λk=>(k,l.fld k))=l.toL
 |.nil,_=>rfl
 |.cons j t r,h=>by
  obtain⟨h1,h2⟩:=nodup_cons.mp (show(j::r.keys).Nodup from h);show(j,(Ts.cons j t r).fld j)::r.keys.map (λk=>(k,(Ts.cons j t r).fld k))=(j,t)::r.toL;have e:(Ts.cons j t r).fld j=t:=by unfold Ts.fld;rw[if_pos rfl]
  rw[e,←fZ r h2]
  congr 1
  refine map_congr_left λk hk=>?_
  show(k,(Ts.cons j t r).fld k)=(k,r.fld k);have e2:(Ts.cons j t r).fld k=r.fld k:=by show(if j=k then t else r.fld k)=r.fld k;rw[if_neg (λz=>h1 (by rw[z];exact hk))]
  rw[e2]
theorem kK:∀l:Ts,(D9 l).keys=l.keys
 |.nil=>rfl
 |.cons k t r=>by show k::(D9 r).keys=k::r.keys;rw[kK r]
def stk:List (Str×Th)->List Nat
 |[]=>[]
 |p::r=>(1+((stk r).take (tX p.2).length).sum)::(stk r).drop (tX p.2).length
def J4:List (Str×Th)->List Nat
 |[]=>[]
 |p::r=>(stk (p::r)).headD 0::J4 r
end Rg
namespace Rg
open PySem PySem.SeqAt
open AutoSeq1 (wpAny_loadPart')
open MeetsSeq MeetsSeq2 MeetsSeq3 SeqRoads2
def El(A:Around)(s:Shared)(u v:Value)(b:Bool):Prop:=
 ∀(prog:Program)(w:World)(E:Value->Shared->Prop)(Q:Value->Shared->Prop),Q (.bool b) s->wpAny (model prog w) A (richCompare .Lt u v) Q E s
def ElC(A:Around)(s:Shared)(u v:Value)(c:Ordering):Prop:=EqAt A s u v (c==.eq)/\(c≠.eq->El A s u v (c==.lt))
section
variable{A:Around}{s:Shared}
theorem ElC.int(a c:Int)(t u:Tok):ElC A s (.int a t) (.int c u) (K0 a c):=by
 have e1:(a==c)=(K0 a c==.eq):=by
  unfold K0;by_cases h:a=c
  ·rw[if_pos h,h];simp
  ·rw[if_neg h,beq_eq_false_iff_ne.mpr h]
   by_cases l:a<c
   ·rw[if_pos l];rfl
   ·rw[if_neg l];rfl
 refine⟨by rw[←e1];exact EqAt.int_int a t c u,λhn=>?_⟩;have e2:decide (a<c)=(K0 a c==.lt):=by
  unfold K0;by_cases h:a=c
  ·rw[if_pos h,h];simp
  ·rw[if_neg h]
   by_cases l:a<c
   ·rw[if_pos l,decide_eq_true l];rfl
   ·rw[if_neg l,decide_eq_false l];rfl
 rw[←e2];exact λprog w E Q q=>HT.Cf A s a t c u prog w E Q q
theorem ElC.str(a c:Str)(t u:Tok):ElC A s (.str a t) (.str c u) (K1 a c):=by
 have e1:(a==c)=(K1 a c==.eq):=by
  unfold K1;by_cases h:a=c
  ·rw[if_pos h,h];simp
  ·rw[if_neg h,beq_eq_false_iff_ne.mpr h]
   by_cases l:a.cps.toList<c.cps.toList
   ·rw[if_pos l];rfl
   ·rw[if_neg l];rfl
 refine⟨by rw[←e1];exact EqAt.str_str a t c u,λhn=>?_⟩;have e2:decide (a.cps.toList<c.cps.toList)=(K1 a c==.lt):=by
  unfold K1;by_cases h:a=c
  ·rw[if_pos h,h,decide_eq_false (List.lt_irrefl _)];rfl
  ·rw[if_neg h]
   by_cases l:a.cps.toList<c.cps.toList
   ·rw[if_pos l,decide_eq_true l];rfl
   ·rw[if_neg l,decide_eq_false l];rfl
 rw[←e2];exact λprog w E Q q=>(PyProof.Rows.lt_str q:wpAny (model prog w) A (compareOp .Lt (.str a t) (.str c u)) Q E s)
end
end Rg
namespace Rg
open PySem PySem.SeqAt
open AutoSeq1 (wpAny_loadPart')
open MeetsSeq MeetsSeq2 MeetsSeq3 SeqRoads2
section
variable{P:Program}{w:World}{l b:Addr}{items items2:Array Value}{n n2:Nat}{dd dd2:Option Addr}{sl sl2:Array (Option Value)}
def tY(P:Program)(w:World)(l b:Addr)(items items2:Array Value)(n n2:Nat)(dd dd2:Option Addr)(sl sl2:Array (Option Value))(r:Bool):Spec:=λA R s=>
 s.heap.get? l=some {cls:=.type "tuple",dict:=dd,data:=.seq items n,slots:=sl}/\s.heap.get? b=some {cls:=.type "tuple",dict:=dd2,data:=.seq items2 n2,slots:=sl2}/\
  (∀j (h1:j<items.size) (h2:j<items2.size),EqIn P w A.in1 s items[j] items2[j])/\R (.ok (.ret (.bool r))) s
theorem Em(hsz:items.size=items2.size):MeetsIn P w (Builtin.«tuple.__eq__» ⟨[.ref l,.ref b],[]⟩) (tY P w l b items items2 n n2 dd dd2 sl sl2 true):=by
 intro A R s h;obtain⟨hp,g,d,tk,os⟩:=s;obtain⟨hl,hb,he,h⟩:=h;have f2:=AutoSeq1.sub_tuple_tuple
 wp_walk using wpAny_loadPart' hl,wpAny_loadPart' hb,wpAny_forIn_list _ (λC9 b s'=>b.1=none/\s'=⟨hp,g,d,tk,os⟩/\∃i:Nat,C9=(items.toList.drop i).zip (items2.toList.drop i)) _
 case turn=>
  rintro ⟨y,x⟩ C9 b s' ⟨hb',rfl,i,hz⟩;rcases lt_or_ge i items.size with hi|hi
  ·have h1:items.toList.drop i=items[i]::items.toList.drop (i+1):=by
    rw[drop_eq_getElem_cons (by simpa using hi)];simp
   have h2:items2.toList.drop i=items2[i]'(!1)::items2.toList.drop (i+1):=by
    rw[drop_eq_getElem_cons (by simp;omega)];simp
   rw[h1,h2,zip_cons_cons]at hz;injection hz with hyx hrest
   injection hyx with hy hx
   subst hy hx;refine wpAny_bind (he i hi (!1) _ _ ?_)
   wp_walk
   exact⟨rfl,rfl,i+1,hrest⟩
  ·rw[drop_of_length_le (by simpa using hi),zip_nil_left]at hz
   cases hz
 case fin=>
  rintro ⟨b1,b2⟩ s' ⟨hb',rfl,i,hz⟩;simp only at hb';subst hb';have hv:(true:Bool)=(items.size==items2.size):=by simp[hsz]
  rw[hv]at h
  wp_walk
  simpa [Builtin.Tuple.tupleCompareSizes]using h
 case h=>
  exact⟨rfl,rfl,0,rfl⟩
theorem En(hsz:items.size=items2.size):MeetsIn P w (Builtin.«tuple.__ne__» ⟨[.ref l,.ref b],[]⟩) (tY P w l b items items2 n n2 dd dd2 sl sl2 false):=by
 intro A R s h;obtain⟨hp,g,d,tk,os⟩:=s;obtain⟨hl,hb,he,h⟩:=h;have f2:=AutoSeq1.sub_tuple_tuple
 wp_walk using wpAny_loadPart' hl,wpAny_loadPart' hb,wpAny_forIn_list _ (λC9 b s'=>b.1=none/\s'=⟨hp,g,d,tk,os⟩/\∃i:Nat,C9=(items.toList.drop i).zip (items2.toList.drop i)) _
 case turn=>
  rintro ⟨y,x⟩ C9 b s' ⟨hb',rfl,i,hz⟩;rcases lt_or_ge i items.size with hi|hi
  ·have h1:items.toList.drop i=items[i]::items.toList.drop (i+1):=by
    rw[drop_eq_getElem_cons (by simpa using hi)];simp
   have h2:items2.toList.drop i=items2[i]'(!1)::items2.toList.drop (i+1):=by
    rw[drop_eq_getElem_cons (by simp;omega)];simp
   rw[h1,h2,zip_cons_cons]at hz;injection hz with hyx hrest
   injection hyx with hy hx
   subst hy hx;refine wpAny_bind (he i hi (!1) _ _ ?_)
   wp_walk
   exact⟨rfl,rfl,i+1,hrest⟩
  ·rw[drop_of_length_le (by simpa using hi),zip_nil_left]at hz
   cases hz
 case fin=>
  rintro ⟨b1,b2⟩ s' ⟨hb',rfl,i,hz⟩;simp only at hb';subst hb';have hv:(false:Bool)=(items.size != items2.size):=by simp[hsz]
  rw[hv]at h
  wp_walk
  simpa [Builtin.Tuple.tupleCompareSizes]using h
 case h=>
  exact⟨rfl,rfl,0,rfl⟩
end
section
variable{P:Program}{w:World}{A:Around}{E:Value->Shared->Prop}{s:Shared}{l b:Addr}{items items2:Array Value}{Q:Value->Shared->Prop}
theorem Eo(hl:s.heap.IsTuple l items)(hb:s.heap.IsTuple b items2)(hsz:items.size=items2.size)(hu:A.units<cLine)(he:∀j (h1:j<items.size) (h2:j<items2.size),EqIn P w A.in1 s items[j] items2[j])(h:Q (.bool true) s):
  wpAny (model P w) A (richCompare .Eq (.ref l) (.ref b)) Q E s:=by
 obtain⟨⟨cls,dd,data,sl⟩,ho,hc,n,hd⟩:=id hl;obtain⟨⟨cls2,dd2,data2,sl2⟩,ho2,hc2,n2,hd2⟩:=id hb;simp only at hc hd hc2 hd2;subst hc hd hc2 hd2;refine wpAny_richCompare_same_room (op:=.Eq) (T:="tuple") ⟨_,ho,rfl⟩ ⟨_,ho2,rfl⟩ F.slot_tuple_eq (call_meetsIn F.slot_tuple_eq ⟨_,ho,rfl⟩ F.entry_tuple_eq (F.args_tuple_eq_2 _ _) (Em hsz) ⟨ho,ho2,he,?_⟩) hu;exact⟨(λx=>nomatch x),h⟩
theorem Ep(hl:s.heap.IsTuple l items)(hb:s.heap.IsTuple b items2)(hsz:items.size=items2.size)(hu:A.units<cLine)(he:∀j (h1:j<items.size) (h2:j<items2.size),EqIn P w A.in1 s items[j] items2[j])(h:Q (.bool false) s):
  wpAny (model P w) A (richCompare .NotEq (.ref l) (.ref b)) Q E s:=by
 obtain⟨⟨cls,dd,data,sl⟩,ho,hc,n,hd⟩:=id hl;obtain⟨⟨cls2,dd2,data2,sl2⟩,ho2,hc2,n2,hd2⟩:=id hb;simp only at hc hd hc2 hd2;subst hc hd hc2 hd2;refine wpAny_richCompare_same_room (op:=.NotEq) (T:="tuple") ⟨_,ho,rfl⟩ ⟨_,ho2,rfl⟩ F.slot_tuple_ne (call_meetsIn F.slot_tuple_ne ⟨_,ho,rfl⟩ F.entry_tuple_ne (F.args_tuple_ne_2 _ _) (En hsz) ⟨ho,ho2,he,?_⟩) hu;exact⟨(λx=>nomatch x),h⟩
end
end Rg
namespace Rg
open PySem PySem.SeqAt L2
inductive Dt where
 |int (i:Int)|str (x:Str)|bl (b:Bool)|non
 |lst (l:List Dt)|tup (l:List Dt)|dic (ks:List Str) (l:List Dt)
mutual
def P6(H:Hp):Dt->V->Prop
 |.int i,v=>v=.int i
 |.str x,v=>v=.str x
 |.bl b,v=>v=.bl b
 |.non,v=>v=.non
 |.lst l,v=>∃a xs,v=.ref a/\H a=some (.lst xs)/\DReps H l xs
 |.tup l,v=>∃a xs,v=.ref a/\H a=some (.tup xs)/\DReps H l xs
 |.dic ks l,v=>∃a kvs,v=.ref a/\H a=some (.dK kvs)/\kvs.map (·.1)=ks.map Sum.inr/\DReps H l (kvs.map (·.2))
def DReps(H:Hp):List Dt->List V->Prop
 |[],xs=>xs=[]
 |d::l,xs=>∃y ys,xs=y::ys/\P6 H d y/\DReps H l ys
end
mutual
def Dt.size:Dt->Nat
 |.lst l=>Dt.sizes l+1
 |.tup l=>Dt.sizes l+1
 |.dic _ l=>Dt.sizes l+1
 |_=>1
def Dt.sizes:List Dt->Nat
 |[]=>0
 |d::l=>d.size+Dt.sizes l
end
mutual
def Dt.deep:Dt->Nat
 |.lst l=>Dt.deeps l+1
 |.tup l=>Dt.deeps l+1
 |.dic _ l=>Dt.deeps l+1
 |_=>0
def Dt.deeps:List Dt->Nat
 |[]=>0
 |d::l=>max d.deep (Dt.deeps l)
end
mutual
def Dt.Fine:Dt->Prop
 |.lst l=>Dt.Fines l
 |.tup l=>Dt.Fines l
 |.dic ks l=>ks.Nodup/\Dt.Fines l
 |_=>True
def Dt.Fines:List Dt->Prop
 |[]=>True
 |d::l=>d.Fine/\Dt.Fines l
end
theorem DReps.len{H:Hp}:∀{l:List Dt}{xs:List V},DReps H l xs->xs.length=l.length
 |[],xs,h=>by rw[(h:xs=[])];rfl
 |d::l,xs,h=>by
  obtain⟨y,ys,rfl,_,h3⟩:=(h:∃y ys,xs=y::ys/\P6 H d y/\DReps H l ys);exact congrArg (· + 1) (DReps.len h3)
theorem cT:∀{kvs:List (A4×V)}{vs:List (A4×Value)},KV kvs vs->Vals (kvs.map (·.2)) (vs.map (·.2))
 |_,_,.nil=>.nil
 |_,_,.cons r t=>.cons r.2 (cT t)
theorem kM{P:Program}{w:World}{A:Around}{s:Shared}:∀{ks:List Str}{us ws:List (A4×Value)},ks.Nodup->us.map (·.1)=ks.map Sum.inr->ws.map (·.1)=ks.map Sum.inr->
  (∀(j:Nat)(h1:j<(us.map (·.2)).length)(h2:j<(ws.map (·.2)).length),EqIn P w A s (us.map (·.2))[j] (ws.map (·.2))[j])->fU P w A s ws us
 |[],us,ws,_,h1,_,_=>by
  intro k v hm;have e:us=[]:=List.map_eq_nil_iff.mp h1;rw[e]at hm;cases hm
 |n::ks,us,ws,nd,h1,h2,he=>by
  cases us with
  |nil=>cases h1
  |cons p us=>
   cases ws with
   |nil=>cases h2
   |cons q ws=>
    obtain⟨k1,v1⟩:=p;obtain⟨k2,v2⟩:=q;have e1:k1=Sum.inr n:=by injection h1
    have e2:k2=Sum.inr n:=by injection h2
    have f1:us.map (·.1)=ks.map Sum.inr:=by injection h1
    have f2:ws.map (·.1)=ks.map Sum.inr:=by injection h2
    subst e1 e2;obtain⟨nd1,nd2⟩:=nodup_cons.mp nd;intro k v hm;rw[DM];rcases mem_cons.mp hm with e|hm
    ·cases e
     exact⟨v2,by rw[if_pos rfl],he 0 (!2) (!2)⟩
    ·have hne:¬(Sum.inr n:A4)=k:=λe=>by
      have z1:k∈us.map (·.1):=mem_map.mpr ⟨_,hm,rfl⟩;rw[f1,←e]at z1;obtain⟨k2,z3,z4⟩:=mem_map.mp z1;cases z4;exact nd1 z3
     rw[if_neg hne];exact kM nd2 f1 f2 (λj g1 g2=>he (j+1) (by simpa using g1) (by simpa using g2)) k v hm
section
variable{P:Program}{w:World}{H:Hp}{s:Shared}(hok:HOk P w H s.heap)
include hok
mutual
theorem Er:∀(d:Dt){v v':V}{u u':Value}{A:Around},P6 H d v->P6 H d v'->L2.RelV v u->L2.RelV v' u'->d.Fine->A.units+d.deep<cLine->EqIn P w A s u u'
 |.int i,v,v',u,u',A,h,h',r,r',_,_=>by
  rw[(h:v=.int i)]at r;rw[(h':v'=.int i)]at r';obtain⟨t1,rfl⟩:=r;obtain⟨t2,rfl⟩:=r';have z:=EqAt.int_int (A:=A) (s:=s) i t1 i t2;rw[beq_self_eq_true]at z;exact EqIn.of z
 |.str x,v,v',u,u',A,h,h',r,r',_,_=>by
  rw[(h:v=.str x)]at r;rw[(h':v'=.str x)]at r';obtain⟨t1,rfl⟩:=r;obtain⟨t2,rfl⟩:=r';have z:=EqAt.str_str (A:=A) (s:=s) x t1 x t2;rw[beq_self_eq_true]at z;exact EqIn.of z
 |.bl b,v,v',u,u',A,h,h',r,r',_,_=>by
  rw[(h:v=.bl b)]at r;rw[(h':v'=.bl b)]at r';cases r;cases r';exact EqIn.of (EqAt.same _)
 |.non,v,v',u,u',A,h,h',r,r',_,_=>by
  rw[(h:v=.non)]at r;rw[(h':v'=.non)]at r';cases r;cases r';exact EqIn.of (EqAt.same _)
 |.lst l,v,v',u,u',A,h,h',r,r',ok,hu=>by
  obtain⟨a,xs,rfl,h2,h3⟩:=(h:∃a xs,v=V.ref a/\H a=some (.lst xs)/\DReps H l xs);obtain⟨b,ys,rfl,g2,g3⟩:=(h':∃a xs,v'=V.ref a/\H a=some (.lst xs)/\DReps H l xs);cases r;cases r';obtain⟨_,its,n,rv,e1⟩:=hok a _ h2;obtain⟨_,jts,m,rw',e2⟩:=hok b _ g2;have hu':A.units+(Dt.deeps l+1)<cLine:=hu;have key:=Z1 (A:=A.in1) l h3 g3 rv rw' ok (by show A.units+1+Dt.deeps l<cLine;omega);have hl:its.length=jts.length:=by rw[←rv.length,←rw'.length,h3.len,g3.len]
  refine EqIn.refs λE Q q=>DI (items:=its.toArray) (items2:=jts.toArray) ⟨_,e1,rfl,n,rfl⟩ ⟨_,e2,rfl,m,rfl⟩ (by simpa using hl) (!1) (λj h1 h2'=>?_) q
  simpa using key j (by simpa using h1) (by simpa using h2')
 |.tup l,v,v',u,u',A,h,h',r,r',ok,hu=>by
  obtain⟨a,xs,rfl,h2,h3⟩:=(h:∃a xs,v=V.ref a/\H a=some (.tup xs)/\DReps H l xs);obtain⟨b,ys,rfl,g2,g3⟩:=(h':∃a xs,v'=V.ref a/\H a=some (.tup xs)/\DReps H l xs);cases r;cases r';obtain⟨_,its,rv,e1⟩:=hok a _ h2;obtain⟨_,jts,rw',e2⟩:=hok b _ g2;have hu':A.units+(Dt.deeps l+1)<cLine:=hu;have key:=Z1 (A:=A.in1) l h3 g3 rv rw' ok (by show A.units+1+Dt.deeps l<cLine;omega);have hl:its.length=jts.length:=by rw[←rv.length,←rw'.length,h3.len,g3.len]
  refine EqIn.refs λE Q q=>Eo (items:=its.toArray) (items2:=jts.toArray) e1 e2 (by simpa using hl) (!1) (λj h1 h2'=>?_) q
  simpa using key j (by simpa using h1) (by simpa using h2')
 |.dic ks l,v,v',u,u',A,h,h',r,r',ok,hu=>by
  obtain⟨a,kvs,rfl,h2,h3,h4⟩:=(h:∃a kvs,v=.ref a/\H a=some (.dK kvs)/\kvs.map (·.1)=ks.map Sum.inr/\DReps H l (kvs.map (·.2)));obtain⟨b,kws,rfl,g2,g3,g4⟩:=(h':∃a kvs,v'=.ref a/\H a=some (.dK kvs)/\kvs.map (·.1)=ks.map Sum.inr/\DReps H l (kvs.map (·.2)));cases r;cases r';obtain⟨_,sa,vs,rv,d1⟩:=T8 hok h2;obtain⟨_,sb,ws,rw',d2⟩:=T8 hok g2;have hu':A.units+(Dt.deeps l+1)<cLine:=hu;have hl:vs.length=ws.length:=by
   rw[←rv.length,←rw'.length,←length_map (·.1),←length_map (as:=kws) (·.1),h3,g3]
  have kv:=(cT rv);have kw:=(cT rw');have key:=Z1 (A:=A.in1) l h4 g4 kv kw ok.2 (by show A.units+1+Dt.deeps l<cLine;omega);refine EqIn.refs λE Q q=>DK sa sb d1 d2 hl (!1) (kM (ks:=ks) ok.1 (by rw[←L2.KV.keys rv];exact h3) (by rw[←L2.KV.keys rw'];exact g3) key) q
theorem Z1:∀(l:List Dt){xs ys:List V}{us ws:List Value}{A:Around},DReps H l xs->DReps H l ys->Vals xs us->Vals ys ws->Dt.Fines l->A.units+Dt.deeps l<cLine->∀(j:Nat)(h1:j<us.length)(h2:j<ws.length),EqIn P w A s us[j] ws[j]
 |[],xs,ys,us,ws,A,h,h',r,r',_,_,j,h1,h2=>by
  rw[(h:xs=[])]at r;cases r;exact absurd h1 (not_lt_zero _)
 |d::q,xs,ys,us,ws,A,h,h',r,r',ok,hu,j,h1,h2=>by
  obtain⟨y,yr,rfl,a1,a2⟩:=(h:∃y ys,xs=y::ys/\P6 H d y/\DReps H q ys);obtain⟨z,zr,rfl,b1,b2⟩:=(h':∃y ys',ys=y::ys'/\P6 H d y/\DReps H q ys');cases r with
  |cons r rr=>
   cases r' with
   |cons r' rr'=>
    have hu':A.units+max d.deep (Dt.deeps q)<cLine:=hu;cases j with
    |zero=>exact Er d a1 b1 r r' ok.1 (!1)
    |succ j=>exact Z1 q a2 b2 rr rr' ok.2 (!1) j (lt_of_succ_lt_succ h1) (lt_of_succ_lt_succ h2)
end
end
theorem Es{X:Cx}{k:Nat}(hr:Room k X.A):OpR X (compareOp .NotEq) (λx y H Q=>∃d:Dt,P6 H d x/\P6 H d y/\d.Fine/\d.deep<=100/\Q (.bl false) H):=by
 intro ζ s σ H x y v u Q I rx ry h;obtain⟨d,h1,h2,ok,hz,q⟩:=h;have hu:X.A.units+150<cLine:=by have z:=hr.un;omega
 cases d with
 |int i=>
  rw[(h1:x=.int i)]at rx;rw[(h2:y=.int i)]at ry;exact cE ζ s σ H _ _ v u Q I rx ry ⟨rfl,by simpa using q⟩
 |str z=>
  rw[(h1:x=.str z)]at rx;rw[(h2:y=.str z)]at ry;exact cE ζ s σ H _ _ v u Q I rx ry ⟨rfl,by simpa using q⟩
 |bl z=>
  rw[(h1:x=.bl z)]at rx;rw[(h2:y=.bl z)]at ry;exact cE ζ s σ H _ _ v u Q I rx ry ⟨rfl,by simpa using q⟩
 |non=>
  rw[(h1:x=.non)]at rx;rw[(h2:y=.non)]at ry;exact cE ζ s σ H _ _ v u Q I rx ry ⟨rfl,by simpa using q⟩
 |lst l=>
  obtain⟨a,xs,rfl,a2,a3⟩:=(h1:∃a xs,x=V.ref a/\H a=some (.lst xs)/\DReps H l xs);obtain⟨b,ys,rfl,b2,b3⟩:=(h2:∃a xs,y=V.ref a/\H a=some (.lst xs)/\DReps H l xs);cases rx;cases ry;obtain⟨_,its,n,rv,e1⟩:=I.hok a _ a2;obtain⟨_,jts,m,rw',e2⟩:=I.hok b _ b2;have hz':Dt.deeps l+1<=100:=hz;have key:=Z1 I.hok (A:=X.A.in1) l a3 b3 rv rw' ok (by show X.A.units+1+Dt.deeps l<cLine;omega);have hl:its.length=jts.length:=by rw[←rv.length,←rw'.length,a3.len,b3.len]
  refine DJ (items:=its.toArray) (items2:=jts.toArray) ⟨_,e1,rfl,n,rfl⟩ ⟨_,e2,rfl,m,rfl⟩ (by simpa using hl) (!1) (λj h1' h2'=>?_) ⟨.bl false,H,I,rfl,q⟩;simpa using key j (by simpa using h1') (by simpa using h2')
 |tup l=>
  obtain⟨a,xs,rfl,a2,a3⟩:=(h1:∃a xs,x=V.ref a/\H a=some (.tup xs)/\DReps H l xs);obtain⟨b,ys,rfl,b2,b3⟩:=(h2:∃a xs,y=V.ref a/\H a=some (.tup xs)/\DReps H l xs);cases rx;cases ry;obtain⟨_,its,rv,e1⟩:=I.hok a _ a2;obtain⟨_,jts,rw',e2⟩:=I.hok b _ b2;have hz':Dt.deeps l+1<=100:=hz;have key:=Z1 I.hok (A:=X.A.in1) l a3 b3 rv rw' ok (by show X.A.units+1+Dt.deeps l<cLine;omega);have hl:its.length=jts.length:=by rw[←rv.length,←rw'.length,a3.len,b3.len]
  refine Ep (items:=its.toArray) (items2:=jts.toArray) e1 e2 (by simpa using hl) (!1) (λj h1' h2'=>?_) ⟨.bl false,H,I,rfl,q⟩;simpa using key j (by simpa using h1') (by simpa using h2')
 |dic ks l=>
  obtain⟨a,kvs,rfl,a2,a3,a4⟩:=(h1:∃a kvs,x=.ref a/\H a=some (.dK kvs)/\kvs.map (·.1)=ks.map Sum.inr/\DReps H l (kvs.map (·.2)));obtain⟨b,kws,rfl,b2,b3,b4⟩:=(h2:∃a kvs,y=.ref a/\H a=some (.dK kvs)/\kvs.map (·.1)=ks.map Sum.inr/\DReps H l (kvs.map (·.2)));cases rx;cases ry;obtain⟨_,sa,vs,rv,d1⟩:=T8 I.hok a2;obtain⟨_,sb,ws,rw',d2⟩:=T8 I.hok b2;have hz':Dt.deeps l+1<=100:=hz;have hl:vs.length=ws.length:=by
   rw[←rv.length,←rw'.length,←length_map (·.1),←length_map (as:=kws) (·.1),a3,b3]
  have key:=Z1 I.hok (A:=X.A.in1) l a4 b4 (cT rv) (cT rw') ok.2 (by show X.A.units+1+Dt.deeps l<cLine;omega);exact DL sa sb d1 d2 hl (!1) (kM (ks:=ks) ok.1 (by rw[←L2.KV.keys rv];exact a3) (by rw[←L2.KV.keys rw'];exact b3) key) ⟨.bl false,H,I,rfl,q⟩
end Rg
namespace Rg
open PySem PySem.W PySem.Spec PyProof.Rows L2
theorem PSet.or{X:Cx}{t u:cC}(h1:PSet X t)(h2:PSet X u):PSet X (λo i v H Q=>t o i v H Q∨u o i v H Q):=
 fun ζ s σ H o i v ov iv w Q I r1 r2 r3 h=>h.elim (λh=>h1 ζ s σ H o i v ov iv w Q I r1 r2 r3 h) (λh=>h2 ζ s σ H o i v ov iv w Q I r1 r2 r3 h)
section
variable{X:Cx}
def tZ:R2:=λx y H Q=>∃a v,x=.ref a/\DGet H a y (some v)/\Q v H
theorem Et(hu:X.A.units+1<cLine):IxR X tZ:=by
 intro value slice ζ s σ H x y v u Q I rx ry h hs;obtain⟨a,w',rfl,g,q⟩:=h;obtain rfl:v=Value.ref a:=rx;have hT:=sN I g;unfold subscriptTail;refine wpAny_bind ?_;rw[getitemInPython_of_ne hT.not_modules];refine wpAny_bind (wpAny_specialOf hT PySem.F.slot_dict_getitem.lookup ?_);have fin:wpAny (model X.prog X.w) X.A (subscripted slice false (.ref a) u) (λr s₃=>wpAny (model X.prog X.w) X.A (letTemporaryGo value (.ref a) r >>= λ_=>pure r) (EP X ζ σ Q) X.xe s₃) X.xe s:=by
  rw[hs];exact wpAny_operating (sJ hu I g ry λz s3 I3 rz=>wpAny_bind (wpAny_letTemporaryGo (wpAny_pure ⟨w',H,I3,rz,q⟩)))
 first
  |exact wpAny_pure (wpAny_bind fin)
  |exact wpAny_bind (wpAny_pure (wpAny_bind fin))
  |exact wpAny_bind fin
theorem Eu(hu:X.A.units+1<cLine):PSet X (λo i v H Q=>∃a H4,o=.ref a/\DPut H a i v H4/\Q H4):=by
 intro ζ s σ H o i v ov iv u Q I ro ri rv h;obtain⟨a,H4,rfl,g,q⟩:=h;obtain rfl:ov=Value.ref a:=ro;exact CT hu I g ri rv λs4 I4=>⟨H4,I4,q⟩
@[irreducible] def R9(K:Frag):R2:=λx y H Q=>R1 (λi j=>.int (i+j)) x y H Q∨(∃i j,x=.str i/\y=.str j/\i.length+j.length<=sizeLine/\Q (.str (i++j)) H)∨sE x y H Q∨rU K x y H Q
theorem Ev(K:Frag)(hK:X.K=K:=by rfl):OpR X (binaryOp .Add) (R9 K):=by
 subst hK;unfold R9;exact Bv.or (BL.or (CL.or Cq))
@[irreducible] def P7(K:Frag):R2:=λx y H Q=>rY K x y H Q∨rX K x y H Q∨tZ x y H Q∨rZ x y H Q
theorem Ew(K:Frag)(hu:X.A.units+1<cLine)(hK:X.K=K:=by rfl):IxR X (P7 K):=by
 subst hK;unfold P7;exact Cu.or (Ct.or ((Et hu).or Cv))
@[irreducible] def cU:cC:=λo i v H Q=>(∃a H4,o=.ref a/\DPut H a i v H4/\Q H4)∨sA o i v H Q
theorem Ex(hu:X.A.units+1<cLine):PSet X cU:=by
 unfold cU;exact PSet.or (Eu hu) Cy
@[irreducible] def cV(K:Frag):V->Option Int->Option Int->Hp->VK->Prop:=λx lo hi H Q=>sB K x lo hi H Q∨rT K x lo hi H Q
theorem Ey(K:Frag)(hK:X.K=K:=by rfl):SlR X (cV K):=by
 subst hK;unfold cV;exact CC.or Cp
@[irreducible] def Z2(K:Frag):List V->Hp->VK->Prop:=λxs H Q=>(∃x n,xs=[x]/\qQ K x H n/\Q (.int n) H)∨(∃a kvs,xs=[V.ref a]/\H a=some (.dK kvs)/\Q (.int kvs.length) H)
theorem Ez(K:Frag)(hK:X.K=K:=by rfl):CallR X (.builtin "len") (Z2 K):=by
 subst hK;unfold Z2;exact iV.or Dd
@[irreducible] def cW(K:Frag):List V->Hp->VK->Prop:=λxs H Q=>tL K xs H Q∨tM K xs H Q
theorem EA(K:Frag)(hK:X.K=K:=by rfl):CallR X (.builtin "isinstance") (cW K):=by
 subst hK;unfold cW;exact fV.or DW
def uA(K:Frag)(ta:TE):TT:=fun σ H Q=>ta σ H λx H'=>∃k,iU K x H' k/\Q k H'
theorem EB(K:Frag){a:Expr}{ta:TE}(ha:PE X a ta)(he:∀whole,isTrue a X.env whole=(do let v ←whole;standAt a.pos;holding [v] (truthy v)))(hK:X.K=K:=by rfl):PT X a (uA K ta):=by
 subst hK;exact BK ha he
@[irreducible] def Z3:R2:=λx y H Q=>qI x y H Q∨∃d:Dt,P6 H d x/\P6 H d y/\d.Fine/\d.deep<=100/\Q (.bl false) H
theorem EC{k:Nat}(hr:Room k X.A):OpR X (compareOp .NotEq) Z3:=by
 unfold Z3;exact cE.or (Es hr)
end
section
variable{K:Frag}{H:Hp}{Q:VK}{a b p:Addr}{xs ys:List V}{kvs:List (A4×V)}
theorem L0{i j:Int}(q:Q (.int (i+j)) H):R9 K (.int i) (.int j) H Q:=by
 unfold R9;exact .inl ⟨_,_,rfl,rfl,q⟩
theorem S0{i j:Str}(h:i.length+j.length<=sizeLine)(q:Q (.str (i++j)) H):R9 K (.str i) (.str j) H Q:=by
 unfold R9;exact .inr (.inl ⟨_,_,rfl,rfl,h,q⟩)
theorem uB(ha:H a=some (.lst xs))(hb:H b=some (.lst ys))(h:xs.length+ys.length<=sizeLine)(q:∀p,H p=none->Q (.ref p) (upd H p (.lst (xs++ys)))):R9 K (.ref a) (.ref b) H Q:=by
 unfold R9;exact .inr (.inr (.inl ⟨a,b,xs,ys,rfl,rfl,ha,hb,h,q⟩))
theorem ED{i:Int}{v:V}(h:H a=some (.tup xs))(e:M7 xs i=some v)(q:Q v H):P7 K (.ref a) (.int i) H Q:=by
 unfold P7;exact .inl ⟨a,xs,i,v,rfl,rfl,SqT.of h,e,q⟩
theorem aV{i:Int}{v:V}(h:SqL K H a xs)(e:M7 xs i=some v)(q:Q v H):P7 K (.ref a) (.int i) H Q:=by
 unfold P7;exact .inr (.inl ⟨a,xs,i,v,rfl,rfl,h,e,q⟩)
theorem uC{y v:V}(g:DGet H a y (some v))(q:Q v H):P7 K (.ref a) y H Q:=by
 unfold P7;exact .inr (.inr (.inl ⟨a,v,rfl,g,q⟩))
theorem EE{k:Str}{v:V}(h:H a=some (.dK kvs))(e:K8 kvs (Sum.inr k)=some v)(q:Q v H):P7 K (.ref a) (.str k) H Q:=uC (by rw[←e];exact DGet.k (k:=Sum.inr k) h) q
theorem gA{k:Str}{v:V}{R:Hp->Prop}(h:H a=some (.dK kvs))(hl:kvs.length<sizeLine)(q:R (upd H a (.dK (G8 kvs (Sum.inr k) v)))):cU (.ref a) (.str k) v H R:=by
 unfold cU;exact .inl ⟨a,_,rfl,DPut.k (k:=Sum.inr k) h hl,q⟩
theorem EF{lo hi:Option Int}(h:SqL K H a xs)(q:∀p,H p=none->Q (.ref p) (upd H p (.lst (U7 xs lo hi)))):cV K (.ref a) lo hi H Q:=by
 unfold cV;exact .inl ⟨a,xs,rfl,h,q⟩
theorem gB(h:SqL K H a xs)(q:Q (.int xs.length) H):Z2 K [.ref a] H Q:=by
 unfold Z2;exact .inl ⟨_,_,rfl,.inl ⟨xs,h,rfl⟩,q⟩
theorem J5{x:V}{n:String}{t:Value}{c:Bool}(h:TyOf K H x t)(e:kitOne K t (.type n)=some c)(q:Q (.bl c) H):cW K [x,.ty n] H Q:=by
 unfold cW;exact .inl ⟨x,n,t,c,rfl,h,e,q⟩
theorem kN{z:Str}{i:Int}{c:Nat}(hz:z.length<=sizeLine)(e:M7 z.cps.toList i=some c)(q:Q (.str ⟨#[c]⟩) H):P7 K (.str z) (.int i) H Q:=by
 unfold P7;exact .inr (.inr (.inr ⟨z,i,c,rfl,rfl,hz,e,q⟩))
theorem uD{x y:V}(h:iT x y=true)(q:Q (.bl (!decide (x=y))) H):Z3 x y H Q:=by
 unfold Z3;exact .inl ⟨h,q⟩
theorem EG{x y:V}(d:Dt)(h1:P6 H d x)(h2:P6 H d y)(f:d.Fine)(hd:d.deep<=100)(q:Q (.bl false) H):Z3 x y H Q:=by
 unfold Z3;exact .inr ⟨d,h1,h2,f,hd,q⟩
end
def W5:Expr->Bool
 |.Starred _ _=>true
 |_=>false
theorem N7{e:Expr}{es:List Expr}{env:Env}(h:W5 e=false):starEach (e::es) env=(false,eval e env)::starEach es env:=by
 cases e<;>first|rfl|cases h
def L8(es:List Expr):Bool:=es.all λe=>!W5 e
theorem L9{e:Expr}{es:List Expr}(h:L8 (e::es)=true):W5 e=false/\L8 es=true:=by
 unfold L8 at h ⊢;rw[all_cons,Bool.and_eq_true,Bool.not_eq_true']at h;exact h
theorem U8{pos:Pos}{env:Env}:∀{es:List Expr},L8 es=true->(backTo pos (starEach es env)).any (·.1)=false
 |[],_=>rfl
 |e::es,h=>by
  obtain⟨h1,h2⟩:=L9 h;rw[N7 h1];exact U8 (pos:=pos) (env:=env) h2
theorem kO{pos:Pos}{env:Env}:∀{es:List Expr},L8 es=true->(backTo pos (starEach es env)).all (λx=>!x.1)=true
 |[],_=>rfl
 |e::es,h=>by
  obtain⟨h1,h2⟩:=L9 h;rw[N7 h1];exact kO (pos:=pos) (env:=env) h2
section
variable{X:Cx}{e o:Expr}{es:List Expr}{te to:TE}{t:TA}{id T:String}{r:List V->Hp->VK->Prop}{x:Str}{p pos apos cpos:Pos}
theorem EH(ha:PE X e te)(hr:PA X es t)(h:W5 e=false:=by rfl):PA X (e::es) (aK te t):=K4 ha hr (N7 h)
theorem EI(hc:CallR X (.builtin id) r)(hg:Gl X x)(hm:X.mg x=none)(hv:bootBuiltins x=some (.builtin id))(ha:PA X (e::es) t)(hn:x≠"__name__":=by decide)(hdb:(x==("__debug__" : Str))=false:=by decide)
  (hs:L8 (e::es)=true:=by rfl):PE X (.Call (.Name x p) (e::es) [] pos) (aM r t):=aN hc hg hm hv ha hn hdb (N7 (L9 hs).1) (U8 (L9 hs).2)
theorem EJ(hc:CallR X (.type T) r)(hg:Gl X x)(hm:X.mg x=none)(hv:bootBuiltins x=some (.type T))(ha:PA X (e::es) t)(hn:x≠"__name__":=by decide)(hdb:(x==("__debug__" : Str))=false:=by decide)
  (hs:L8 (e::es)=true:=by rfl):PE X (.Call (.Name x p) (e::es) [] pos) (aM r t):=Ce hc hg hm hv ha hn hdb (N7 (L9 hs).1) (U8 (L9 hs).2)
theorem EK{name:Str}{rm:V->List V->Hp->VK->Prop}(K:Frag)(pa:PlainAttrs T)(slot:Slot T name id)(hty:typeOf (.builtin id)=pure (.type "method_descriptor"))(hm:cJ X id rm)(ho:PE X o to)(ha:PA X (e::es) t)
  (hbase:attributeBase o name X.env (eval o X.env)=eval o X.env:=by rfl) (hfew:(e::es).length<30:=by decide) (hline:(apos.endLine==cpos.line)=true:=by rfl) (hs:L8 (e::es)=true:=by rfl) (hK:X.K=K:=by rfl):
  PE X (.Call (.Attribute o name apos) (e::es) [] cpos) (jE K T rm to t):=by
 subst hK;refine CF pa slot hty hm ho ha hbase ?_ hline (N7 (L9 hs).1) (U8 (L9 hs).2);rw[kO hs,Bool.true_and];show(true&&decide ((e::es).length+0+0<30))=true;rw[Bool.true_and];exact decide_eq_true hfew
theorem EL{name:Str}{rm:V->List V->Hp->VK->Prop}(K:Frag)(pa:PlainAttrs T)(slot:Slot T name id)(hty:typeOf (.builtin id)=pure (.type "method_descriptor"))(hm:cJ X id rm)(ho:PE X o to)
  (hbase:attributeBase o name X.env (eval o X.env)=eval o X.env:=by rfl) (hline:(apos.endLine==cpos.line)=true:=by rfl) (hK:X.K=K:=by rfl):PE X (.Call (.Attribute o name apos) [] [] cpos) (jD K T rm to):=by
 subst hK;exact CD pa slot hty hm ho hbase hline
end
def C4(P:Program)(w:World)(K:Frag)(mg:Str->Option Value)(base:Heap)(x:Str)(k:Nat)(ps:List Str)(sp:Sp):Prop:=
 ∃f fd,FnOk P w K mg base B9 k f fd ps sp/\Binds K fd ps []/\keepIn K (.ref f)=true/\mg x=some (.ref f)
theorem EM{X:Cx}{x:Str}{k j:Nat}{ps:List Str}{sp:Sp}{p pos:Pos}{e:Expr}{es:List Expr}{t:TA}(h:C4 X.prog X.w X.K X.mg X.base x k ps sp)(hr:Room j X.A)(hkj:k<=j)(hg:Gl X x)(ha:PA X (e::es) t)
  (hdb:(x==("__debug__" : Str))=false:=by decide) (hs:L8 (e::es)=true:=by rfl):
  PE X (.Call (.Name x p) (e::es) [] pos) (eY sp [] E0 t):=by
 obtain⟨f,fd,F,b,kp,m⟩:=h;exact iY F (hr.mono hkj) hg m kp b .nil aO ha hdb (N7 (L9 hs).1) (U8 (L9 hs).2)
structure Walk(J:It)(C:Hp->Prop)(n:Nat)(y:Nat->V->Hp->Hp->Prop):Prop where
 go:∀i H,C H->i<n->J.go i H
 stop:∀i H,C H->i=n->J.stop i H
 yld:∀i H v H',C H->i<n->J.yld i H v H'->y i v H H'
section
variable{J:It}{C:Hp->Prop}{n:Nat}{y:Nat->V->Hp->Hp->Prop}
theorem aW{g:TG}{tb:TS}{D:Ends}{σ:L2.St}{H:Hp}(Wk:Walk J C n y)(Pv:Nat->L2.St->Hp->Prop)(h0:Pv 0 σ H)(hl:∀i σ H,i<=n->Pv i σ H->C H)
  (hs:∀i x σ H H',i<n->Pv i σ H->y i x H H'->g x σ H' fun σ2 H2=>tb {D with nx:=Pv (i+1),ct:=Pv (i+1),bk:=D.nx} σ2 H2) (hd:∀σ H,Pv n σ H->D.nx σ H):
  ∃W:Nat->Nat->L2.St->Hp->Prop,(∃m,W 0 m σ H)/\∀i m σ H,W i m σ H->
   (J.stop i H/\D.nx σ H)∨(J.go i H/\∃N:L2.St->Hp->Prop,(∀σ' H',N σ' H'->∃m',m'<m/\W (i+1) m' σ' H')/\∀x H',J.yld i H x H'->g x σ H' fun σ2 H2=>tb {D with nx:=N,ct:=N,bk:=D.nx} σ2 H2):=by
 refine⟨λi m σ H=>m=n-i/\i<=n/\Pv i σ H,⟨n,!2,zero_le _,h0⟩,?_⟩;rintro i m σ H ⟨rfl,hi,p⟩;have q:=hl i σ H hi p;by_cases hlt:i<n
 ·exact .inr ⟨Wk.go i H q hlt,Pv (i+1),fun σ' H' p'=>⟨n-(i+1),!1,rfl,hlt,p'⟩,λx H' z=>hs i x σ H H' hlt p (Wk.yld i H x H' q hlt z)⟩
 ·have e:i=n:=by omega
  subst e;exact .inl ⟨Wk.stop i H q rfl,hd σ H p⟩
theorem EN{U:TU}{k:Nat}{fr:List (Str×Nat)}{tt:TT}{te:TE}{σ:L2.St}{Kf:List V->Hp->Prop}{H:Hp}(Wk:Walk J C n y)(Pv:Nat->List V->Hp->Prop)(hz:n<=sizeLine)(h0:Pv 0 [] H)(hl:∀i ys H,i<=n->Pv i ys H->C H/\ys.length<=i)
  (hs:∀i x ys H H',i<n->Pv i ys H->y i x H H'->∃vs,U x vs H'/\vs.length=k/\tt (K9 (vs.map some) fr σ) H' λok H2=>if ok=true then te (K9 (vs.map some) fr σ) H2 (λz H3=>Pv (i+1) (ys++[z]) H3)else Pv (i+1) ys H2)
  (hd:∀ys H,Pv n ys H->Kf ys H):fW U k fr tt te σ Kf J H:=by
 refine⟨λi m ys H=>m=n-i/\i<=n/\Pv i ys H,⟨n,!2,zero_le _,h0⟩,?_⟩;rintro i m ys H ⟨rfl,hi,p⟩;obtain⟨q,hy⟩:=hl i ys H hi p;by_cases hlt:i<n
 ·exact .inr ⟨Wk.go i H q hlt,!1,λz H3=>Pv (i+1) (ys++[z]) H3,Pv (i+1) ys,λz H2 p'=>⟨n-(i+1),!1,rfl,hlt,p'⟩,λH2 p'=>⟨n-(i+1),!1,rfl,hlt,p'⟩,λx H' z=>hs i x ys H H' hlt p (Wk.yld i H x H' q hlt z)⟩
 ·have e:i=n:=by omega
  subst e;exact .inl ⟨Wk.stop i H q rfl,!1,hd ys H p⟩
theorem W6{U:TU}{k:Nat}{fr:List (Str×Nat)}{te:TE}{σ:L2.St}{Kf:List V->Hp->Prop}{H:Hp}(Wk:Walk J C n y)(Pv:Nat->List V->Hp->Prop)(hz:n<=sizeLine)(h0:Pv 0 [] H)(hl:∀i ys H,i<=n->Pv i ys H->C H/\ys.length<=i)
  (hs:∀i x ys H H',i<n->Pv i ys H->y i x H H'->∃vs,U x vs H'/\vs.length=k/\te (K9 (vs.map some) fr σ) H' (λz H3=>Pv (i+1) (ys++[z]) H3))
  (hd:∀ys H,Pv n ys H->Kf ys H):fW U k fr aT te σ Kf J H:=
 EN Wk Pv hz h0 hl (λi x ys H H' hi p z=>by
  obtain⟨vs,h1,h2,h3⟩:=hs i x ys H H' hi p z;refine⟨vs,h1,h2,?_⟩;unfold aT;dsimp only;rw[if_pos rfl];exact h3) hd
end
theorem gC{K:Frag}{a:Addr}{xs:List V}:Walk (aI K a) (λH=>SqL K H a xs) xs.length (λi v H H'=>H'=H/\xs[i]?=some v) where
 go:=λi H q hi=>⟨xs,xs[i],q,by simp[hi]⟩
 stop:=λi H q hi=>⟨xs,q,!1⟩
 yld:=λi H v H' q hi z=>⟨z.1,z.2 xs q⟩
theorem aX{lo:Int}{n:Nat}:Walk (eS lo n) (λ_=>True) n (λi v H H'=>H'=H/\v=.int (lo+i)) where
 go:=λi H q hi=>hi
 stop:=λi H q hi=>by show n<=i;omega
 yld:=λi H v H' q hi z=>z
theorem EO{a:Addr}{o:Obj}{kvs:List (A4×V)}:Walk (jZ a o kvs) (λH=>H a=some (.frz o (.dK kvs))) kvs.length (λi v H H'=>H'=H/\∃kv,kvs[i]?=some kv/\v=kV kv.1) where
 go:=λi H q hi=>⟨hi,q⟩
 stop:=λi H q hi=>⟨!1,q⟩
 yld:=λi H v H' q hi z=>z
end Rg
namespace Rg
open PySem PySem.W PySem.Spec PyProof.Rows L2
section
variable{X:Cx}{elt iter:Expr}{cs:List Expr}{x y z:Str}{px pyy pz pt pos:Pos}{kt:Nat}{scope:Scope}{fr:List (Str×Nat)}{wi:TI}{te:TE}{tt:TT}
theorem uE(hc:X.calm=true)(hcs:cs=[]∨∃c,cs=[c])(hi:PI X (.Name x px) iter wi)(S:LcOkG X [x] fr scope)(hT:∀fp C s H,aS (F7 X [x] fr scope fp C s H) cs tt)(he:∀fp C s H,PE (F7 X [x] fr scope fp C s H) elt te)
  (hs:∀v,foldedSetIterable iter X.env v=pure v:=by intro _;rfl):PE X (.ListComp elt [⟨.Name x px,iter,cs,0⟩] scope pos) (kH kB 1 fr wi tt te):=Eb hc hcs hi S (Ec S) hT he hs
variable{i:Nat}{v:Str}{pv' spos:Pos}
end
structure Blt(mg:Str->Option Value):Prop where
 len:mg "len"=none
 isi:mg "isinstance"=none
 list:mg "list"=none
 dict:mg "dict"=none
 sorted:mg "sorted"=none
 rev:mg "reversed"=none
 range:mg "range"=none
 int:mg "int"=none
 bool:mg "bool"=none
 str:mg "str"=none
 sum:mg "sum"=none
 zip:mg "zip"=none
 abs:mg "abs"=none
 min:mg "min"=none
 max:mg "max"=none
 all:mg "all"=none
 enum:mg "enumerate"=none
 tuple:mg "tuple"=none
end Rg
namespace Rg
open PySem PySem.W PySem.Spec PyProof.Rows L2
def uF(t u:TS):TS:=λD σ H=>∃M:L2.St->Hp->Prop,t {D with nx:=M} σ H/\∀σ' H',M σ' H'->u D σ' H'
theorem EQ{X:Cx}{st:Stmt}{C9:List Stmt}{t u:TS}(h1:PS X st t)(h2:PSs X C9 u):PSs X (st::C9) (uF t u):=by
 intro ζ s σ H D I h;obtain⟨M,h,hM⟩:=h;refine wpAny_execs_cons (A7 (h1 ζ s σ H {D with nx:=M} I h) λf s1 q=>?_);cases f with
 |next=>
  obtain⟨σ',H',I',q⟩:=q;exact h2 ζ s1 σ' H' D I' (hM σ' H' q)
 |ret v=>exact q
 |brk=>exact q
 |cont=>exact q
end Rg
namespace Rg
open PySem L2
theorem M8{c:Bool}{A B:Prop}(e:c=true)(h:A):if c=true then A else B:=by rw[e];exact D0 h
theorem P0{c:Bool}{A B:Prop}(e:c=false)(h:B):if c=true then A else B:=by rw[e];exact B5 h
theorem N8{n:Nat}(h:n<=1000):n<=sizeLine:=le_of_lt (cK h)
end Rg
namespace Rg
open PySem PySem.W PySem.Spec PyProof.Rows L2
def kP(K:Frag)(a:Addr):It:=
 ⟨λi H=>∃xs x,SqL K H a xs/\xs[i]?=some x,λi H v H'=>∃T x,v=.ref T/\H T=none/\H'=upd H T (.tup [.int (i:Nat),x])/\∀xs,SqL K H a xs->xs[i]?=some x,λi H=>∃xs,SqL K H a xs/\xs.length=i⟩
theorem ER{P:Program}{w:World}{K:Frag}{elts:List Expr}{kt:Nat}{pos:Pos}(a e it:Addr)(h1:e≠it)(h2:a≠e)(h3:a≠it):
  Turn P w K (.Tuple elts kt pos) (kP K a) [e,it] e (λi h=>(∃old,IsEnum h e it i old)/\h.IsListIter it a i) where
 mem:=by simp
 obj:=λi h st c hc=>by
  obtain⟨⟨old,he⟩,⟨o1,e1,c1,d1⟩⟩:=st;have z:c=e∨c=it:=by simpa using hc
  rcases z with rfl|rfl
  ·exact⟨_,he,λv z=>by cases z⟩
  ·exact⟨_,e1,λv z=>by rw[d1]at z;cases z⟩
 keep:=λi h h' st k=>by
  obtain⟨⟨old,he⟩,hi⟩:=st;exact⟨⟨old,k e (!2) _ he⟩,hi.at λo x=>k it (!2) o x⟩
 item:=by
  intro X hP hw hK hc i ζ s σ H E I hf st hg;subst hP hw hK;obtain⟨xs,x,hq,hx⟩:=hg;obtain⟨its,rv,p,hz⟩:=I.list hq;obtain⟨u,hu,ru⟩:=rv.get hx;have W:=WalksT.enumerate (prog:=X.prog) (w:=X.w) (A:=X.A) (I.ok.hd hc) e it a h1 h2 h3 its.toArray;have li:i<its.length:=(List.getElem?_eq_some_iff.mp hu).1;refine W.item i s _ _ (by rw[size_toArray];exact li) ⟨st.1,st.2,p.isList⟩ λT vals h1' tk hPt hT hTup hMid hk=>?_
  obtain⟨t,v1,e1,rfl⟩:=hPt;have e1':v1=u:=by
   have z1:its[i]?=some v1:=by simpa using e1
   exact Option.some.inj (z1.symm.trans hu)
  subst e1';refine⟨.ref T,rfl,W.go elts kt pos i T {s with heap:=h1',toks:=tk} _ _ hMid λh2' st2 hk2=>?_⟩;have nw:T∉[e,it]:=W.apart i T _ hMid;have I1:Inv X ζ σ H {s with heap:=h2',toks:=tk}:=tF I (λc o hb e=>hk2 c o hb (hk c o hb e)) hf;have hTn:H T=none:=I.hok.fresh hT;have fT:E7 X ζ H T:=I.fpOk hT hTn;have hTup2:h2'.IsTuple T #[.int i t,v1]:=hTup.at λo e=>hk2 T o nw e
  have I2:Inv X ζ σ (upd H T (.tup [.int (i:Nat),x])) {s with heap:=h2',toks:=tk}:=cN I1 fT (le_trans I.sz hT) ⟨by show 2<=sizeLine;decide,[.int i t,v1],.cons ⟨t,rfl⟩ (.cons ru .nil),hTup2⟩;obtain⟨t1,t2,_⟩:=st2;refine⟨.ref T,upd H T (.tup [.int (i:Nat),x]),I2,rfl,⟨T,x,rfl,hTn,rfl,λxs' h'=>?_⟩,⟨t1,t2⟩,λc hc=>?_⟩
  ·rw[I.list_inj h' hq];exact hx
  ·have hne:c≠T:=λz=>nw (by rw[←z];exact hc)
   rw[A9 hne];exact(hf c hc).1
 done:=by
  intro X hP hw hK hc i ζ s σ H E I hf st hg;subst hP hw hK;obtain⟨xs,hq,hx⟩:=hg;obtain⟨its,rv,p,hz⟩:=I.list hq;have W:=WalksT.enumerate (prog:=X.prog) (w:=X.w) (A:=X.A) (I.ok.hd hc) e it a h1 h2 h3 its.toArray;have hl:=rv.length;have en:its.toArray.size=i:=by rw[size_toArray,←hl];exact hx
  exact W.done s _ _ (by rw[en];exact⟨st.1,st.2,p.isList⟩) λh1 tk hk=>⟨rfl,tF I (λc o hb e=>hk c o hb e) hf⟩
 self:=λ_ _ _ _ _ st h=>by
  obtain⟨⟨old,he⟩,_⟩:=st;exact wpAny_pyIter_enum he h
section
variable{X:Cx}
def uG(K:Frag)(ta:TA):TI:=fun σ H R=>ta σ H λvs H1=>∃a,vs=[.ref a]/\(∃xs,SqL K H1 a xs)/\R (kP K a) H1
theorem ES{elts:List Expr}{kt:Nat}{pt:Pos}{a:Expr}{ta:TA}{p pos:Pos}(hg:Gl X "enumerate")(hm:X.mg "enumerate"=none)(ha:PA X [a] ta)(hs:starEach [a] X.env=[(false,eval a X.env)]:=by rfl):
  PI X (.Tuple elts kt pt) (.Call (.Name "enumerate" p) [a] [] pos) (uG X.K ta):=by
 intro ζ s σ H R I h;refine Call_ (W1 I hg hm boot_enumerate (PyProof.Rows.callWith_type1 (A7 (ha pos ζ s σ H _ I h) λus s1 ⟨vs,H1,I1,r1,q1⟩=>?_) hs rfl));obtain⟨a,e,⟨xs,hq⟩,q⟩:=q1;subst e;cases r1 with
 |cons r rr=>
  cases rr;cases r;obtain⟨its,rv,p1,hz⟩:=I1.list hq;have lt1:a<s1.heap.objs.size:=by obtain⟨o,e,_⟩:=p1.isList;exact Heap.lt_size e
  refine call_enumerate_list p1.isList λh' hE hI hsz hk=>?_
  refine wpAny_pyIter_enum hE ?_;have I2:Inv X ζ σ H1 {s1 with heap:=h'}:=I1.kept (t':=s1.toks) hk;refine⟨s1.heap.objs.size+1,[s1.heap.objs.size+1,s1.heap.objs.size],_,_,H1,rfl,I2,ER a _ _ (Nat.succ_ne_self _) (ne_of_lt (lt_succ_of_lt lt1)) (ne_of_lt lt1),⟨⟨_,hE⟩,hI⟩,λc hc=>?_,q⟩;have hle:s1.heap.objs.size<=c:=by
   have e:c=s1.heap.objs.size+1∨c=s1.heap.objs.size:=by simpa using hc
   have:∀n:Nat,(c=n+1∨c=n)->n<=c:=λn h=>by rcases h with h|h<;>(rw[h];first|exact le_add_right _ _|exact le_refl _)
   exact this _ e
  exact I1.fpOk hle (I1.hok.fresh hle)
end
theorem ET{K:Frag}{a:Addr}{xs:List V}:Walk (kP K a) (λH=>SqL K H a xs) xs.length (λi v H H'=>∃T x,v=.ref T/\H T=none/\H'=upd H T (.tup [.int (i:Nat),x])/\xs[i]?=some x) where
 go:=λi H q hi=>⟨xs,xs[i],q,by simp[hi]⟩
 stop:=λi H q hi=>⟨xs,q,hi.symm⟩
 yld:=λi H v H' q hi z=>by
  obtain⟨T,x,h1,h2,h3,h4⟩:=z;exact⟨T,x,h1,h2,h3,h4 xs q⟩
theorem EU{X:Cx}(hc:X.calm=true):CallR X (.builtin "all") (λxs H Q=>∃(a:Addr)(bs:List Bool),xs=[.ref a]/\H a=some (.lst (bs.map V.bl))/\Q (.bl (bs.all id)) H):=by
 intro ζ s σ H xs us Q I r h;obtain⟨a,bs,rfl,ha,q⟩:=h;obtain⟨u,rfl,ru⟩:=M3 r;cases ru;obtain⟨_,its,n,rv,e⟩:=I.hok a _ ha;have hl:s.heap.IsList a its.toArray:=⟨_,e,rfl,n,rfl⟩;have hb:=tO rv;have hlt:a<s.heap.objs.size:=Heap.lt_size e;refine call_all_walk (wpAny_pyIter_list hl ?_);refine⟨s.heap.objs.size,[s.heap.objs.size,a],[s.heap.objs.size],its.toArray.size,_,_,λi=>(bs[i]?).getD true,rfl,Walks.list (A:=X.A.in1) (I.ok.hd hc) _ a (ne_of_lt hlt) its.toArray,
  ⟨⟨_,Heap.get?_push_size _ rfl,rfl,rfl⟩,hl.push _⟩,λi v s' Q' E' hP hQ=>?_,λh' tk hk=>?_⟩
 ·have hP':its[i]?=some v:=by simpa using hP
  rw[hb,getElem?_map]at hP';cases eb:bs[i]? with
  |none=>rw[eb]at hP';cases hP'
  |some b=>
   rw[eb]at hP';cases hP';simp only[eb,getD_some]at hQ;exact wpAny_truthy_bool hQ
 ·have e2:((List.range its.toArray.size).all λi=>(bs[i]?).getD true)=bs.all id:=by
   have hn:its.toArray.size=bs.length:=by rw[size_toArray,hb,length_map]
   rw[hn];apply Bool.eq_iff_iff.mpr;rw[all_eq_true,all_eq_true];constructor
   ·intro z x hx
    obtain⟨i,hi,e⟩:=getElem_of_mem hx;have y:=z i (mem_range.mpr hi);rw[getElem?_eq_getElem hi]at y;rw[←e];exact y
   ·intro z i hi
    have hi':=mem_range.mp hi;rw[getElem?_eq_getElem hi'];exact z _ (getElem_mem hi')
  rw[e2];exact⟨.bl (bs.all id),H,I.kept (t':=tk) (LSm.kept_iter hk),rfl,q⟩
end Rg
namespace Rg
open PySem PySem.W PySem.Spec PyProof.Rows L2
structure QE(X:Cx)(e:Expr)(t:TE):Prop where h:PE X e t
structure QT(X:Cx)(e:Expr)(t:TT):Prop where h:PT X e t
structure QW(X:Cx)(e:Expr)(t:TT):Prop where h:PW X e t
structure QA(X:Cx)(es:List Expr)(t:TA):Prop where h:PA X es t
structure QS(X:Cx)(st:Stmt)(t:TS):Prop where h:PS X st t
structure QSs(X:Cx)(sts:List Stmt)(t:TS):Prop where h:PSs X sts t
structure QI(X:Cx)(tg iter:Expr)(wi:TI):Prop where h:PI X tg iter wi
structure QG(X:Cx)(tg:Expr)(t:TG):Prop where h:PG X tg t
structure QGs(X:Cx)(tgs:List Expr)(t:U6):Prop where h:cB X tgs t
structure QO(X:Cx)(e:Option Expr)(t:TO):Prop where h:PO X e t
structure QTs(X:Cx)(cs:List Expr)(t:TT):Prop where h:aS X cs t
structure QOp(X:Cx)(f:Value->Value->Sem Value)(r:R2):Prop where h:OpR X f r
structure QC(X:Cx)(f:Value)(r:List V->Hp->VK->Prop):Prop where h:CallR X f r
structure QM(X:Cx)(id:String)(r:V->List V->Hp->VK->Prop):Prop where h:cJ X id r
section
variable{X:Cx}{a b c e o i value:Expr}{es C9:List Expr}{ta tb tc te to ti tv td ty:TE}{tA tB' tt:TT}{t:TA}{pos pos' p px pyy pz pt tpos apos cpos:Pos}{x y z f name:Str}{K:Frag}
theorem qv(i:Nat){x:Str}{pos:Pos}(hN:X.N[i]?=some x:=by rfl)(hv:eI X.env.scope x:=by first|exact Or.inl rfl|exact Or.inr (Or.inl rfl)|exact Or.inr (Or.inr rfl))(hd:(x==("__debug__" : Str))=false:=by decide)
  (hcd:(x==("__classdict__" : Str))=false:=by decide):QE X (.Name x pos) (eJ i):=⟨pF hN hv hd hcd⟩
theorem uH{v:V}{u:Value}(hg:Gl X x)(hm:X.mg x=some u)(r:RelV v u)(hd:(x==("__debug__" : Str))=false:=by decide):QE X (.Name x pos) (tC v):=⟨pH hg hm r hd⟩
theorem N9{v:V}{u:Value}(hg:Gl X x)(hm:X.mg x=none)(hv:bootBuiltins x=some u)(r:RelV v u)(hn:x≠"__name__":=by decide)(hd:(x==("__debug__" : Str))=false:=by decide):QE X (.Name x pos) (tC v):=⟨eL hg hm hv r hn hd⟩
theorem A2{i:Int}{j}:QE X (.Constant (.int i) j pos) (tC (.int i)):=⟨AS⟩
theorem S5{b:Bool}{j}:QE X (.Constant (.bool b) j pos) (tC (.bl b)):=⟨AT⟩
theorem D1{x:Str}{j}:QE X (.Constant (.str x) j pos) (tC (.str x)):=⟨pG⟩
theorem A3{op:Operator}{r:R2}(ho:QOp X (binaryOp op) r)(ha:QE X a ta)(hb:QE X b tb):QE X (.BinOp a op b pos) (T7 r ta tb):=⟨Bu ho.h ha.h hb.h⟩
theorem EV(ha:QE X a ta):QE X (.UnaryOp .Not a pos) (pN ta):=⟨Bb ha.h⟩
theorem kQ{op}(ha:QE X a ta):QE X (.BoolOp op [a] pos) ta:=⟨AZ ha.h⟩
theorem kU(ha:QE X a ta)(hb:QE X (.BoolOp .And (b::C9) pos) tb):QE X (.BoolOp .And (a::b::C9) pos) (pM ta tb):=⟨Ba ha.h hb.h⟩
theorem aY{op:CmpOp}{r:R2}(ho:QOp X (compareOp op) r)(ha:QE X a ta)(hb:QE X b tb)(hm:behindInMarks op b=false):QE X (.Compare a [op] [b] pos) (T7 r ta tb):=⟨BF ho.h ha.h hb.h hm⟩
theorem J1{op:CmpOp}{r:R2}(ho:QOp X (compareOp op) r)(ha:QE X a ta)(hb:QE X b tb)(hm:behindInMarks op b=false):QT X (.Compare a [op] [b] pos) (eW (T7 r ta tb)):=⟨BG ho.h ha.h hb.h hm⟩
theorem uI{op op':CmpOp}{r r':R2}(ho:QOp X (compareOp op) r)(ho':QOp X (compareOp op') r')(ha:QE X a ta)(hb:QE X b tb)(hc:QE X c tc)(hm:lastMarks [op,op'] [b,c]=false):QT X (.Compare a [op,op'] [b,c] pos) (eW (qN r r' ta tb tc)):=⟨BH ho.h ho'.h ha.h hb.h hc.h hm⟩
theorem EW(hc:QT X c tA)(ha:QE X a ta)(hb:QE X b tb):QE X (.IfExp c a b pos) (pO tA ta tb):=⟨Bc hc.h ha.h hb.h⟩
theorem uJ:QO X none rO:=⟨Cn⟩
theorem gD(h:QE X e te):QO X (some e) (rQ te):=⟨Co h.h⟩
theorem EX(K:Frag){lo hi:Option Expr}{tl th:TO}{p2:Pos}(he:QE X e te)(hl:QO X lo tl)(hu:QO X hi th)(hK:X.K=K:=by rfl):QE X (.Subscript e (.Slice lo hi none p2) pos) (jA (cV K) te tl th):=⟨rR (Ey K hK) he.h hl.h hu.h⟩
theorem R4(K:Frag)(hu:X.A.units+1<cLine)(ha:QE X a ta)(hb:QE X b tb)(hs:rW b)(hK:X.K=K:=by rfl):QE X (.Subscript a b pos) (T7 (P7 K) ta tb):=⟨Cs (Ew K hu hK) ha.h hb.h hs⟩
theorem S6(K:Frag)(he:QE X e ta)(hb:attributeBase e f X.env (eval e X.env)=eval e X.env)(hK:X.K=K:=by rfl):QE X (.Attribute e f pos) (qW K ta f):=by
 subst hK;exact⟨BV he.h hb⟩
theorem uK{x1}(h:QA X es t):QE X (.Tuple es x1 pos) (rA t):=⟨cH h.h⟩
theorem O0(h:QA X es t):QE X (.List es pos) (eX t):=⟨rB h.h⟩
theorem kW:QE X (.Dict [] [] pos) sP:=⟨CZ⟩
theorem A1:QA X [] Y5:=⟨O8⟩
theorem A0(ha:QE X e te)(hr:QA X es t)(h:W5 e=false:=by rfl):QA X (e::es) (aK te t):=⟨EH ha.h hr.h h⟩
theorem Z4{e:Expr}(h:QW X e tA):QT X e tA:=⟨h.h.pt⟩
theorem kY(ha:QT X a tA):QW X (.BoolOp .And [a] pos) tA:=⟨AU ha.h⟩
theorem gE(ha:QT X a tA):QW X (.BoolOp .Or [a] pos) tA:=⟨AV ha.h⟩
theorem kZ(ha:QT X a tA)(hb:QW X (.BoolOp .And (b::C9) pos) tB'):QW X (.BoolOp .And (a::b::C9) pos) (pI tA tB'):=⟨AW ha.h hb.h⟩
theorem cX(ha:QT X a tA)(hb:QW X (.BoolOp .Or (b::C9) pos) tB'):QW X (.BoolOp .Or (a::b::C9) pos) (pJ tA tB'):=⟨AX ha.h hb.h⟩
theorem P8(ha:QT X a tA):QT X (.UnaryOp .Not a pos) (pK tA):=⟨AY ha.h⟩
theorem E2(K:Frag)(ha:QE X a ta)(he:∀whole,isTrue a X.env whole=(do let v ←whole;standAt a.pos;holding [v] (truthy v)))(hK:X.K=K:=by rfl):QT X a (uA K ta):=⟨EB K ha.h he hK⟩
theorem F4{id:String}{r:List V->Hp->VK->Prop}(hc:QC X (.builtin id) r)(hg:Gl X x)(hm:X.mg x=none)(hv:bootBuiltins x=some (.builtin id))(ha:QA X (e::es) t)(hn:x≠"__name__":=by decide)(hdb:(x==("__debug__" : Str))=false:=by decide)
  (hs:L8 (e::es)=true:=by rfl):QE X (.Call (.Name x p) (e::es) [] pos) (aM r t):=⟨EI hc.h hg hm hv ha.h hn hdb hs⟩
theorem Z5{T:String}{r:List V->Hp->VK->Prop}(hc:QC X (.type T) r)(hg:Gl X x)(hm:X.mg x=none)(hv:bootBuiltins x=some (.type T))(ha:QA X (e::es) t)(hn:x≠"__name__":=by decide)(hdb:(x==("__debug__" : Str))=false:=by decide)
  (hs:L8 (e::es)=true:=by rfl):QE X (.Call (.Name x p) (e::es) [] pos) (aM r t):=⟨EJ hc.h hg hm hv ha.h hn hdb hs⟩
theorem M5{T id:String}{rm:V->List V->Hp->VK->Prop}(K:Frag)(pa:PlainAttrs T)(slot:Slot T name id)(hty:typeOf (.builtin id)=pure (.type "method_descriptor"))(hm:QM X id rm)(ho:QE X o to)(ha:QA X (e::es) t)
  (hbase:attributeBase o name X.env (eval o X.env)=eval o X.env:=by rfl) (hfew:(e::es).length<30:=by decide) (hline:(apos.endLine==cpos.line)=true:=by rfl) (hs:L8 (e::es)=true:=by rfl) (hK:X.K=K:=by rfl):
  QE X (.Call (.Attribute o name apos) (e::es) [] cpos) (jE K T rm to t):=⟨EK K pa slot hty hm.h ho.h ha.h hbase hfew hline hs hK⟩
theorem uL{T id:String}{rm:V->List V->Hp->VK->Prop}(K:Frag)(pa:PlainAttrs T)(slot:Slot T name id)(hty:typeOf (.builtin id)=pure (.type "method_descriptor"))(hm:QM X id rm)(ho:QE X o to)
  (hbase:attributeBase o name X.env (eval o X.env)=eval o X.env:=by rfl) (hline:(apos.endLine==cpos.line)=true:=by rfl) (hK:X.K=K:=by rfl):QE X (.Call (.Attribute o name apos) [] [] cpos) (jD K T rm to):=⟨EL K pa slot hty hm.h ho.h hbase hline hK⟩
theorem C1{k j:Nat}{ps:List Str}{sp:Sp}(h:C4 X.prog X.w X.K X.mg X.base x k ps sp)(hr:Room j X.A)(hkj:k<=j)(hg:Gl X x)(ha:QA X (e::es) t)
  (hdb:(x==("__debug__" : Str))=false:=by decide) (hs:L8 (e::es)=true:=by rfl):QE X (.Call (.Name x p) (e::es) [] pos) (eY sp [] E0 t):=⟨EM h hr hkj hg ha.h hdb hs⟩
end
section
variable{X:Cx}{tg a b e iter l:Expr}{ta:TA}{te tl:TE}{p pos:Pos}
theorem aZ(hg:Gl X "range")(hm:X.mg "range"=none)(ha:QA X [a] ta)(hs:W5 a=false:=by rfl):QI X tg (.Call (.Name "range" p) [a] [] pos) (qC ta):=⟨Bq hg hm ha.h (N7 hs)⟩
theorem EY(K:Frag){elts:List Expr}{kt:Nat}{pt:Pos}(hg:Gl X "enumerate")(hm:X.mg "enumerate"=none)(ha:QA X [a] ta)(hs:W5 a=false:=by rfl)(hK:X.K=K:=by rfl):QI X (.Tuple elts kt pt) (.Call (.Name "enumerate" p) [a] [] pos) (uG K ta):=by
 subst hK;exact⟨ES hg hm ha.h (N7 hs)⟩
theorem gF(K:Frag)(hl:QE X l tl)(hK:X.K=K:=by rfl):QI X tg l (qB K tl):=by
 subst hK;exact⟨iQ hl.h⟩
theorem EZ(K:Frag)(hl:QE X l tl):QI X tg l (tG tl):=⟨DC hl.h⟩
end
section
variable{X:Cx}{tg a b c e o i iter:Expr}{es:List Expr}{body C9:List Stmt}{st:Stmt}{te to ti tv ta:TE}{tc tt:TT}{t u tb:TS}{g:TG}{gs:U6}{wi:TI}{x y z f:Str}{pos pos' tpos px pyy pz pt:Pos}{K:Frag}
theorem U9{i:Nat}(hN:X.N.Nodup)(hi:X.N[i]?=some x)(hx:aG X.env.scope x)(hf:X.fn x=true∨X.env.scope.names.lookup x=some .local:=by first|exact .inl rfl|exact .inr rfl|assumption):QG X (.Name x pos) (cD i):=⟨pU hN hi hx hf⟩
theorem lA:QGs X [] pV:=⟨Bf⟩
theorem bA(h1:QG X e g)(h2:QGs X es gs)(hs:(assignEach (e::es) X.env).map (·.2)=assign e X.env::(assignEach es X.env).map (·.2):=by rfl):QGs X (e::es) (pW g gs):=⟨Bg h1.h h2.h hs⟩
theorem lB(K:Frag){k n:Nat}(hc:X.calm=true)(h:QGs X es gs)(hn:(assignEach es X.env).length=n:=by rfl)(hst:(assignEach es X.env).findIdx? (·.1)=none:=by rfl)(hK:X.K=K:=by rfl):QG X (.Tuple es k pos) (pX K n gs):=by
 subst hK;exact⟨Bh hc h.h hn hst⟩
theorem C7:QSs X [] pP:=⟨eM⟩
theorem A8(h:QS X st t):QSs X [st] t:=⟨Y3 h.h⟩
theorem A5(h1:QS X st t)(h2:QSs X C9 u):QSs X (st::C9) (aH t u):=⟨eN h1.h h2.h⟩
theorem lC(h1:QS X st t)(h2:QSs X C9 u):QSs X (st::C9) (uF t u):=⟨EQ h1.h h2.h⟩
theorem Fa{sts:List Stmt}:QSs X sts pS:=⟨pT⟩
theorem B7(h:QE X e te):QS X (.Return (some e) pos) (iP te):=⟨Y4 h.h⟩
theorem O1(h:QE X e te)(hs:swapsWith e none pos.line X.env=pure false:=by rfl):QS X (.Expr e pos) (pQ te):=⟨Be h.h hs⟩
theorem C5{sa sb:List Stmt}(hc:QT X c tc)(ha:QSs X sa t)(hb:QSs X sb u):QS X (.If c sa sb pos) (pR tc t u):=⟨eO hc.h ha.h hb.h⟩
theorem cY(hp:PassesOwn (model X.prog X.w) X.A X.env X.xe)(hc:QT X c tc)(hb:QSs X body tb):QS X (.While c body [] pos) (pZ tc tb):=⟨Bl hp hc.h hb.h⟩
theorem bB(hp:PassesOwn (model X.prog X.w) X.A X.env X.xe)(hc:X.calm=true)(hi:QI X tg iter wi)(hg:QG X tg g)(hb:QSs X body tb)(hs:∀x,foldedSetIterable iter X.env x=pure x:=by intro _;rfl):QS X (.For tg iter body [] pos) (qD wi g tb):=⟨Bs hp hc hi.h hg.h hb.h hs⟩
theorem Fb(h:QS X st t):QS X st (tH t):=⟨DD h.h⟩
theorem C8{i:Nat}(hN:X.N.Nodup)(hi:X.N[i]?=some x)(hx:aG X.env.scope x)(he:QE X e te)(hs:swapsWith e (some (.Name x pos')) pos.line X.env=pure false:=by rfl)(hf:X.fn x=true∨X.env.scope.names.lookup x=some .local:=by first|exact .inl rfl|exact .inr rfl|assumption):
  QS X (.Assign [.Name x pos'] e pos) (eQ te (cD i)):=⟨Bk hN hi hx he.h hs hf⟩
theorem gG(hu:X.A.units+1<cLine)(hv:QE X e te)(ho:QE X o to)(hi:QE X i ti)(hs:swapsWithSole [.Subscript o i pos'] e pos.line X.env=pure false:=by rfl)
  (ha:∀v,assign (.Subscript o i pos') X.env v=(do
   let ov ←holding [v] (eval o X.env)
   let iv ←holding [v,ov] (eval i X.env)
   standAt pos'
   holding [v,ov,iv] (setItem ov iv v)
   release [v,ov,iv] []):=by intro _;rfl) (hw:swappedStores [.Subscript o i pos'] e X.env=pure none:=by rfl):QS X (.Assign [.Subscript o i pos'] e pos) (eQ te (pY to ti cU)):=
 ⟨Bj hv.h (Bi ho.h hi.h (Ex hu) ha) hs hw⟩
theorem uM(K:Frag)(ha:QE X o ta)(hv:QE X e tv)(hs:swapsWith e (some (.Attribute o f pos')) pos.line X.env=pure false)(hK:X.K=K:=by rfl):QS X (.Assign [.Attribute o f pos'] e pos) (qX K ta tv f):=by
 subst hK;exact⟨BW ha.h hv.h hs⟩
theorem uN(K:Frag){op:Operator}{rd:V->V->Hp->VK->Prop}(ha:QE X o ta)(hv:QE X e tv)(hop:iX X op rd)(hK:X.K=K:=by rfl):QS X (.AugAssign (.Attribute o f tpos) op e pos) (qY K ta tv rd f):=by
 subst hK;exact⟨BX ha.h hv.h hop⟩
theorem W7:QTs X [] aT:=⟨tP⟩
variable{elt:Expr}{cs:List Expr}{kt:Nat}{scope:Scope}{fr:List (Str×Nat)}
theorem W8(hc:X.calm=true)(hcs:cs=[]∨∃c,cs=[c])(hi:QI X (.Name x px) iter wi)(S:LcOkG X [x] fr scope)(hT:∀fp C s H,QTs (F7 X [x] fr scope fp C s H) cs tt)(he:∀fp C s H,QE (F7 X [x] fr scope fp C s H) elt te)
  (hs:∀v,foldedSetIterable iter X.env v=pure v:=by intro _;rfl):QE X (.ListComp elt [⟨.Name x px,iter,cs,0⟩] scope pos) (kH kB 1 fr wi tt te):=⟨uE hc hcs hi.h S (λa b c d=>(hT a b c d).h) (λa b c d=>(he a b c d).h) hs⟩
variable{n:Nat}{v:Str}{pv' spos:Pos}
end
section
variable{X:Cx}
theorem E3(K:Frag)(hK:X.K=K:=by rfl):QOp X (binaryOp .Add) (R9 K):=⟨Ev K hK⟩
theorem V0:QOp X (binaryOp .Sub) (R1 λi j=>.int (i-j)):=⟨Bw⟩
theorem lD:QOp X (binaryOp .Mult) (rI CMul λi j=>.int (i*j)):=⟨Bx⟩
theorem L1:QOp X (binaryOp .FloorDiv) (rI qF λi j=>.int (i / j)):=⟨By⟩
theorem G3:QOp X (binaryOp .Mod) (rI (λ_ j=>0<j) λi j=>.int (i % j)):=⟨Bz⟩
theorem uO:QOp X (binaryOp .Pow) (rI qG λi j=>.int (i^j.toNat)):=⟨BA⟩
theorem O2:QOp X (compareOp .Eq) qH:=⟨BB⟩
theorem lE{k:Nat}(hr:Room k X.A):QOp X (compareOp .NotEq) Z3:=⟨EC hr⟩
theorem lF:QOp X (compareOp .Lt) (R1 λi j=>.bl (decide (i<j))):=⟨BC⟩
theorem gH:QOp X (compareOp .LtE) (R1 λi j=>.bl (decide (i<=j))):=⟨BD⟩
theorem gI:QOp X (compareOp .Gt) (R1 λi j=>.bl (decide (j<i))):=⟨BE⟩
theorem V1(K:Frag)(hK:X.K=K:=by rfl):QC X (.builtin "len") (Z2 K):=⟨Ez K hK⟩
theorem O3(K:Frag)(hK:X.K=K:=by rfl):QC X (.builtin "isinstance") (cW K):=⟨EA K hK⟩
theorem gJ(hc:X.calm=true):QC X (.builtin "all") (λxs H Q=>∃(a:Addr)(bs:List Bool),xs=[.ref a]/\H a=some (.lst (bs.map V.bl))/\Q (.bl (bs.all id)) H):=⟨EU hc⟩
theorem T9:QM X "list.append" fB:=⟨CI⟩
theorem uP:QM X "list.pop" sD:=⟨CK⟩
theorem uQ:QM X "list.extend" jG:=⟨CJ⟩
end
theorem F8{X:Cx}{body:List Stmt}{D:Ends}{σ:L2.St}{H:Hp}{t:TS}(h:QSs X body t)(r:t D σ H):∃t,PSs X body t/\t D σ H:=⟨t,h.h,r⟩
end Rg
namespace Rg
open PySem PySem.W PySem.Spec PyProof.Rows L2
section
variable{prog:Program}{w:World}{A:Around}{E:Value->Shared->Prop}{s:Shared}{env:Env}
theorem uR{o:Expr}{name:Str}{apos pos:Pos}{args:List Expr}{Q:Value->Shared->Prop}
  (hbase:attributeBase o name env (eval o env)=eval o env)
  (hfew:((backTo pos (starEach args env)).all (λx=>!x.1)&&(backToKw pos (keywordEach [] env)).all (λx=>x.1.isSome)
   && decide (args.length+([]:List Keyword).length+(if([]:List Keyword).isEmpty then 0 else 1)<30))=true)
  (hline:(apos.endLine==pos.line)=true)
  (h:wpAny (model prog w) A (eval o env) (λov s₁=>∀pl:Sem Bool,wpAny (model prog w) A (getMethod ov name pl) (λr s₂=>wpAny (model prog w) A (callWith pos r.1 r.2 (backTo pos (starEach args env)) (backToKw pos (keywordEach [] env))) Q E s₂) E s₁) E s):
  wpAny (model prog w) A (eval (.Call (.Attribute o name apos) args [] pos) env) Q E s:=by
 rw[arm_eval_Call,hbase];refine wpAny_bind (wpAny_mono h (λov s₁ h₁=>?_) λ_ _ e=>e);refine wpAny_bind (wpAny_standAt ?_);have hform:methodCallForm (args.length+([]:List Keyword).length) (backTo pos (starEach args env)) (backToKw pos (keywordEach [] env))=true:=hfew;have hpos:methodCallPos true o env apos pos=pure pos:=by unfold methodCallPos;simp[hline]
 unfold methodCall;rw[hform];refine wpAny_bind (wpAny_holding (wpAny_mono (h₁ _) (λr s₂ h₂=>?_) λ_ _ e=>e));exact wpAny_bind (wpAny_of_eq hpos h₂)
end
def P9(P:Program)(w:World)(K:Frag)(mg:Str->Option Value)(base:Heap)(C:Addr)(m:Str)(k:Nat)(ps:List Str)(sp:Sp):Prop:=
 ∃f fd,FnOk P w K mg base B9 k f fd ps sp/\Binds K fd ps []/\Meth K C m f/\Cls K C
def lG(P:Program)(w:World)(K:Frag)(mg:Str->Option Value)(base:Heap)(x:Str)(C:Addr)(k:Nat)(ps:List Str)(sp:Sp):Prop:=
 ∃f fd,FnOk P w K mg base B9 k f fd ps sp/\Binds K fd ps []/\Mk K C f/\mg x=some (.ref C)
structure ClsF(K:Frag)(C:Addr)(fs:List Str):Prop where
 cls:Cls K C
 no:∀f∈fs,NoAttr K C f
section
variable{X:Cx}{o e:Expr}{es:List Expr}{ta:TE}{t:TA}{m x:Str}{apos pos p:Pos}{C:Addr}{k j:Nat}{ps:List Str}{sp:Sp}
theorem Fc(h:P9 X.prog X.w X.K X.mg X.base C m k ps sp)(hr:Room j X.A)(hkj:k<=j)(he:PE X o ta)(ha:PA X (e::es) t)
  (hbase:attributeBase o m X.env (eval o X.env)=eval o X.env:=by rfl) (hfew:(e::es).length<30:=by decide) (hline:(apos.endLine==pos.line)=true:=by rfl) (hs:L8 (e::es)=true:=by rfl):
  PE X (.Call (.Attribute o m apos) (e::es) [] pos) (eZ C m sp [] E0 ta t):=by
 obtain⟨f,fd,F,b,hm,c⟩:=h;intro ζ s σ H Q I h;refine uR hbase ?_ hline (A7 (he ζ s σ H _ I h) λu s1 ⟨x,H1,I1,rx,a,dx,fs,ex,ea,l,q⟩=>?_)
 ·rw[kO hs,Bool.true_and]
  show(true&&decide ((e::es).length+0+0<30))=true;rw[Bool.true_and];exact decide_eq_true hfew
 ·intro pl
  subst ex;obtain rfl:u=Value.ref a:=rx;refine qU I1 ea c hm l ?_;refine callWith_K (first:=[.ref a]) (h₀:=X.base) I.ok.mod.kin hm.kp (A7 (ha pos ζ s1 σ H1 _ I1 q) λus s2 ⟨vs,H2,I2,r,q2⟩=>⟨I2.kIn,?_⟩) (N7 (L9 hs).1) (U8 (L9 hs).2);exact fA (us:=.ref a::us) (vs:=.ref a::vs) F (hr.mono hkj) b .nil aO I2 (.cons rfl r) q2
theorem Fd(h:P9 X.prog X.w X.K X.mg X.base C m k ps sp)(hr:Room j X.A)(hkj:k<=j)(he:PE X o ta)
  (hbase:attributeBase o m X.env (eval o X.env)=eval o X.env:=by rfl) (hline:(apos.endLine==pos.line)=true:=by rfl):
  PE X (.Call (.Attribute o m apos) [] [] pos) (eZ C m sp [] E0 ta Y5):=by
 obtain⟨f,fd,F,b,hm,c⟩:=h;intro ζ s σ H Q I h;refine uR hbase rfl hline (A7 (he ζ s σ H _ I h) λu s1 h9=>?_);obtain⟨x,H1,I1,rx,a,dx,fs,ex,ea,l,q⟩:=h9;intro pl;subst ex;obtain rfl:u=Value.ref a:=rx;refine qU I1 ea c hm l ?_;exact callWith_K0 (first:=[.ref a]) I1.kIn hm.kp (fA (us:=[.ref a]) (vs:=[.ref a]) F (hr.mono hkj) b .nil aO I1 (.cons rfl .nil) q)
theorem V2(h:P9 X.prog X.w X.K X.mg X.base C m k ps sp)(hr:Room j X.A)(hkj:k<=j)(he:QE X o ta)(ha:QA X (e::es) t)
  (hbase:attributeBase o m X.env (eval o X.env)=eval o X.env:=by rfl) (hfew:(e::es).length<30:=by decide) (hline:(apos.endLine==pos.line)=true:=by rfl) (hs:L8 (e::es)=true:=by rfl):
  QE X (.Call (.Attribute o m apos) (e::es) [] pos) (eZ C m sp [] E0 ta t):=⟨Fc h hr hkj he.h ha.h hbase hfew hline hs⟩
theorem Fe(h:P9 X.prog X.w X.K X.mg X.base C m k ps sp)(hr:Room j X.A)(hkj:k<=j)(he:QE X o ta)
  (hbase:attributeBase o m X.env (eval o X.env)=eval o X.env:=by rfl) (hline:(apos.endLine==pos.line)=true:=by rfl):
  QE X (.Call (.Attribute o m apos) [] [] pos) (eZ C m sp [] E0 ta Y5):=⟨Fd h hr hkj he.h hbase hline⟩
theorem Ff(h:lG X.prog X.w X.K X.mg X.base x C k ps sp)(hr:Room (j+1) X.A)(hkj:k<=j)(hg:Gl X x)(ha:QA X (e::es) t)
  (hdb:(x==("__debug__" : Str))=false:=by decide) (hs:L8 (e::es)=true:=by rfl):QE X (.Call (.Name x p) (e::es) [] pos) (rC C sp [] E0 t):=by
 obtain⟨f,fd,F,b,M,m⟩:=h;exact⟨Cd M F (hr.mono (succ_le_succ hkj)) hg m b .nil aO ha.h hdb (N7 (L9 hs).1) (U8 (L9 hs).2)⟩
end
end Rg
namespace Rg
open PySem PySem.W PySem.Spec PyProof.Rows L2
section
variable{X:Cx}{e:Expr}{te:TE}{p p2 pos pos2:Pos}
def Fg(K:Frag)(te:TE):TE:=fun σ H Q=>te σ H λx H1=>∃a xs,x=.ref a/\SqL K H1 a xs/\∀p,H1 p=none->Q (.ref p) (upd H1 p (.lst xs.reverse))
theorem uS(hc:X.calm=true)(K:Frag)(hg:Gl X "list")(hm:X.mg "list"=none)(hg2:Gl X "reversed")(hm2:X.mg "reversed"=none)(he:QE X e te)(hs:W5 e=false:=by rfl)(hK:X.K=K:=by rfl):
  QE X (.Call (.Name "list" p) [.Call (.Name "reversed" p2) [e] [] pos2] [] pos) (Fg K te):=by
 subst hK;exact⟨Dy hc hg hm hg2 hm2 he.h (N7 hs) (N7 rfl)⟩
theorem uT:∀{ys:List Str}{us:List Value},Vals (ys.map V.str) us->StrsAre us ys
 |[],_,r=>by rw[map_nil]at r;cases r;exact .nil
 |y::ys,_,r=>by
  rw[map_cons]at r;cases r with
  |cons h t=>
   obtain⟨tk,rfl⟩:=(show ∃t,_=Value.str y t from h);exact .cons _ _ (uT t)
end
end Rg
namespace Rg
open PySem L2
def C6(G H:Hp):Hp:=λa=>if(G a).isSome=true then none else H a
def Dom(G H:Hp):Prop:=∀a,G a≠none->H a≠none
theorem Dom.refl(G:Hp):Dom G G:=λ_ h=>h
theorem Dom.trans{G H I:Hp}(a:Dom G H)(b:Dom H I):Dom G I:=λx h=>b x (a x h)
theorem Dom.of{G H:Hp}(e:Same G H):Dom G H:=λa h=>by
 cases q:G a with
 |none=>exact absurd q h
 |some o=>rw[e a o q];simp
theorem Dom.upd{G H:Hp}{a:Addr}{o:HO}(d:Dom G H):Dom G (L2.upd H a o):=λb h=>by
 by_cases e:b=a
 ·rw[e,A6];simp
 ·rw[A9 e];exact d b h
theorem bD{G H:Hp}{a:Addr}{o:HO}(h:C6 G H a=some o):G a=none/\H a=some o:=by
 unfold C6 at h;cases q:G a with
 |none=>rw[q]at h;exact⟨rfl,h⟩
 |some u=>rw[q]at h;cases h
theorem O4{G H:Hp}{a:Addr}{o:HO}(h:G a=none)(h2:H a=some o):C6 G H a=some o:=by
 unfold C6;rw[h];exact h2
theorem V3{G H:Hp}:Same (C6 G H) H:=λ_ _ h=>(bD h).2
def Ts.snoc(k:Str)(t:Th):Ts->Ts
 |.nil=>.cons k t .nil
 |.cons j u r=>.cons j u (r.snoc k t)
theorem Ts.snoc_keys(k:Str)(t:Th):∀l:Ts,(l.snoc k t).keys=l.keys++[k]
 |.nil=>rfl
 |.cons j _ r=>congrArg (j::·) (Ts.snoc_keys k t r)
theorem Ts.snoc_size(k:Str)(t:Th):∀l:Ts,(l.snoc k t).size=l.size+t.size
 |.nil=>by show t.size+0=0+t.size;omega
 |.cons j u r=>by show u.size+(r.snoc k t).size=u.size+r.size+t.size;rw[Ts.snoc_size k t r];omega
theorem RepR.snoc{H:Hp}{k:Str}{t:Th}{y:V}(ht:Rep H t y):∀{l:Ts}{xs:List V},RepR H l xs->RepR H (l.snoc k t) (xs++[y])
 |.nil,xs,h=>by rw[(h:xs=[])];exact⟨y,[],rfl,ht,rfl⟩
 |.cons j u r,xs,h=>by
  obtain⟨z,zs,rfl,h2,h3⟩:=(h:∃y ys,xs=y::ys/\Rep H u y/\RepR H r ys);exact⟨z,zs++[y],rfl,h2,RepR.snoc ht h3⟩
theorem RepD.snoc{H:Hp}{k:Str}{t:Th}{y:V}(ht:Rep H t y):∀{l:Ts}{xs:List (A4×V)},RepD H l xs->RepD H (l.snoc k t) (xs++[(Sum.inr k,y)])
 |.nil,xs,h=>by rw[(h:xs=[])];exact⟨y,[],rfl,ht,rfl⟩
 |.cons j u r,xs,h=>by
  obtain⟨z,zs,rfl,h2,h3⟩:=(h:∃y ys,xs=(Sum.inr j,y)::ys/\Rep H u y/\RepD H r ys);exact⟨z,zs++[(Sum.inr k,y)],rfl,h2,RepD.snoc ht h3⟩
theorem RepD.fresh{H:Hp}{l:Ts}{kvs:List (A4×V)}{k:Str}(h:RepD H l kvs)(hk:¬k∈l.keys):K8 kvs (Sum.inr k)=none:=by
 cases e:K8 kvs (Sum.inr k)with
 |none=>rfl
 |some v=>
  have z:=De e;rw[h.keys]at z;obtain⟨j,z1,z2⟩:=mem_map.mp z;cases z2;exact absurd z1 hk
theorem uU{α:Type}{xs:List α}{i:Int}(h0:0<=i)(h1:i<(xs.length:Int)):∃v,M7 xs i=some v/\v∈xs:=by
 obtain⟨k,rfl⟩:∃k:Nat,i=(k:Int):=⟨i.toNat,!1⟩
 have hk:k<xs.length:=by omega
 exact⟨xs[k],cI (getElem?_eq_getElem hk),getElem_mem hk⟩
end Rg
namespace Rg
open PySem L2
inductive Fm where
 |any
 |num (lo hi:Option Int)
 |wrd (ws:List Str)
 |row (ps:List (Str×Nat×Option Nat))
 |rcd (fs:List (Str×Bool×Str)) (op:Bool)
 |many (k:Fin 3) (ns:List Str)
 |nott (n:Str)
 |look (f w a b:Str)
def uV:Option Int->Dt
 |none=>.non
 |some i=>.int i
def Fh:Option Nat->Dt
 |none=>.non
 |some i=>.int i
def Fi:Fin 3->Str
 |0=>"all"
 |1=>"some"
 |2=>"one"
def Fm.sort:Fm->Str
 |.any=>"any"
 |.num _ _=>"number"
 |.wrd _=>"word"
 |.row _=>"row"
 |.rcd _ _=>"record"
 |.many k _=>Fi k
 |.nott _=>"not"
 |.look _ _ _ _=>"look"
def Fj(p:Str×Nat×Option Nat):Dt:=.tup [.str p.1,.int p.2.1,Fh p.2.2]
def Fk(p:Str×Bool×Str):Dt:=.tup [.str p.1,.bl p.2.1,.str p.2.2]
def Fm.args:Fm->List Dt
 |.any=>[]
 |.num lo hi=>[uV lo,uV hi]
 |.wrd ws=>[.lst (ws.map .str)]
 |.row ps=>[.lst (ps.map Fj)]
 |.rcd fs op=>[.lst (fs.map Fk),.bl op]
 |.many _ ns=>[.lst (ns.map .str)]
 |.nott n=>[.str n]
 |.look f w a b=>[.str f,.str w,.str a,.str b]
def Fm.dt(F:Fm):Dt:=.tup (.str F.sort::F.args)
def Fm.Ok:Fm->Prop
 |.wrd ws=>ws.length<=100
 |.row ps=>ps.length<=100
 |.rcd fs _=>fs.length<=100
 |.many _ ns=>ns.length<=100
 |_=>True
end Rg
namespace Rg
open PySem L2
theorem O5{G G' H:Hp}(d:Dom G G'):Same (C6 G' H) (C6 G H):=λa o h=>by
 obtain⟨h1,h2⟩:=bD h;refine O4 ?_ h2;cases q:G a with
 |none=>rfl
 |some u=>exact absurd h1 (d a (by rw[q];simp))
theorem S7{G H H':Hp}(e:Same H H'):Same (C6 G H) (C6 G H'):=λa o h=>by
 obtain⟨h1,h2⟩:=bD h;exact O4 h1 (e _ _ h2)
theorem W9{G H:Hp}{l:Addr}{o:HO}(h:G l≠none):C6 G (upd H l o)=C6 G H:=by
 funext b
 unfold C6;by_cases e:b=l
 ·subst e
  cases q:G b with
  |none=>exact absurd q h
  |some u=>rfl
 ·rw[A9 e]
def SameBut(l:Addr)(H H':Hp):Prop:=∀b o,b≠l->H b=some o->H' b=some o
end Rg
namespace Rg
structure Sta where
 want:Option Nat
 stay:Bool
 skip:Bool
end Rg
namespace Rg
open PySem L2 Classical
structure Vw where
 lets:Str->Bool
 word:Option Str
inductive Nd where
 |num (i:Int)
 |wrd (x:Str)
 |row (ms:List Vw)
 |rcd (ms:List (Str×Vw))
end Rg
namespace Rg
open PySem PySem.W PySem.Spec PyProof.Rows L2
def Fl:HO->Bool
 |.tup _=>true
 |_=>false
def Fr(A:List Addr)(H H':Hp):Prop:=∀b o,H b=some o->(b∈A->Fl o=true)->H' b=some o
section
variable{A B:List Addr}{H H' H'' H0:Hp}{a:Addr}{o o':HO}{xs:List V}
theorem _root_.L2.Same.put(h:Same H H')(hn:H a=none):Same H (upd H' a o):=λb u e=>by
 rw[A9 (E6 e hn)];exact h b u e
theorem uW{b:Addr}(h:upd H a o b=none):b≠a/\H b=none:=by
 by_cases z:b=a
 ·subst z;rw[A6]at h;cases h
 ·rw[A9 z]at h;exact⟨z,h⟩
theorem _root_.L2.Same.thaw{z:Obj}{d:Addr}{u:HO}(h:Same (upd H d (.frz z u)) H')(hd:H d=some u):Same H (upd H' d u):=λb o e=>by
 by_cases q:b=d
 ·subst q;rw[A6,←e,hd]
 ·rw[A9 q];exact h b o (by rw[A9 q];exact e)
end
section
variable{K:Frag}{H:Hp}{Q:VK}{a b p:Addr}{xs ys:List V}{kvs:List (A4×V)}
theorem uX{k:Str}{v:V}(h:Rd H a (.dK kvs))(e:K8 kvs (Sum.inr k)=some v)(q:Q v H):P7 K (.ref a) (.str k) H Q:=uC (by rw[←e];exact .inl ⟨kvs,Sum.inr k,h,rfl,rfl⟩) q
end
end Rg
namespace Rg
open PySem L2
section
variable{H:Hp}{a b c:Addr}{o u:HO}{r:Option HO}
theorem J6(h:b≠a)(e:H b=r):upd H a o b=r:=by rw[A9 h];exact e
theorem nx(h:upd H a o b=none):b≠a:=(uW h).1
theorem nn(h:upd H a o b=none):H b=none:=(uW h).2
end
end Rg
namespace Rg
open PySem PySem.W PySem.Spec PyProof.Rows L2
theorem uY{g:Str}{v:V}{n k:Nat}{fs:List (Str×V)}(h:fs.length+(k+1)<n):(J8 g v fs).length+k<n:=by
 have:(J8 g v fs).length<=fs.length+1:=by
  induction fs with
  |nil=>exact le_refl _
  |cons q r ih=>
   have ih:=ih (by have:(q::r).length=r.length+1:=rfl;omega);obtain⟨a,b⟩:=q;show(if a=g then(a,v)::r else(a,b)::J8 g v r).length<=r.length+1+1;by_cases z:a=g
   ·rw[if_pos z];exact le_succ _
   ·rw[if_neg z];exact succ_le_succ ih
 omega
theorem Fo{g:Str}{v:V}{fs:List (Str×V)}(h:fs.length+1<1000):(J8 g v fs).length<1000:=uY (k:=0) h
theorem J7(n:Nat)(h:n<=100000:=by first|decide|omega):n<sizeLine:=lt_of_le_of_lt h (!3)
end Rg
namespace Rg
open PySem L2
theorem uZ{α β:Type}{f:α->β}{l:List α}{i:Nat}{y:β}(h:(l.map f)[i]?=some y):∃x,l[i]?=some x/\y=f x:=by
 rw[getElem?_map]at h;cases e:l[i]? with
 |none=>rw[e]at h;cases h
 |some x=>rw[e]at h;exact⟨x,rfl,(Option.some.inj h).symm⟩
end Rg
namespace Rg
open PySem PySem.W PySem.Spec PyProof.Rows L2
theorem KeysAre.getAt{H:Hp}:∀{xs:List Str}{us:List Value},KeysAre H xs us->∀i,i<us.length->∃p,us.getD i Value.none=Value.ref p/\H p=some (.tup (L7 (xs.getD i Str.empty)))
 |_,_,.nil,i,h=>absurd h (not_lt_zero _)
 |_,_,.cons (a:=x) ⟨p,h1,h2⟩ _,0,_=>⟨p,h1,h2⟩
 |_,_,.cons _ t,i+1,h=>KeysAre.getAt t i (lt_of_succ_lt_succ h)
theorem Fp{P:Program}{w:World}{A:Around}{E:Value->Shared->Prop}{s:Shared}{H:Hp}{x y:Str}{p q:Addr}{C:Bool->Shared->Prop}(hok:HOk P w H s.heap)(hp:H p=some (.tup (L7 x)))(hq:H q=some (.tup (L7 y)))(h:C (B1 x y) s):
  wpAny (model P w) A (keyLt' (tuples' true) (.ref p) (.ref q)) C E s:=by
 obtain⟨_,us,ru,⟨ox,ex,cx,nx,dx⟩⟩:=hok p _ hp;obtain⟨_,ws,rw',⟨oy,ey,cy,ny,dy⟩⟩:=hok q _ hq;obtain⟨u1,u2,rfl,⟨t1,rfl⟩,⟨t2,rfl⟩⟩:=Vals.two ru;obtain⟨w1,w2,rfl,⟨t3,rfl⟩,⟨t4,rfl⟩⟩:=Vals.two rw';refine kat_lt ex dx ey dy ?_;refine kat_cons (SeqAt.EqAt.int_int _ _ _ _ P w _ _ ?_);refine kat_go (λe1=>kat_yes ?_) (λe1=>kat_no (oneLt_int ?_))
 ·have z1:((x.length:Nat):Int)=((y.length:Nat):Int):=beq_iff_eq.mp e1
  refine kat_cons (SeqAt.EqAt.str_str _ _ _ _ P w _ _ ?_);refine kat_go (λe2=>kat_yes (kat_nil ?_)) (λe2=>kat_no (kat_one _ _ (lt_str (show W.BoolBack _ (Value.bool _) _ from ?_))))
  ·have z2:x=y:=beq_iff_eq.mp e2
   subst z2;have z3:B1 x x=false:=by unfold B1;rw[tT];rfl
   rw[z3]at h;exact h
  ·have z2:¬x=y:=beq_eq_false_iff_ne.mp e2
   have z3:B1 x y=decide (x.cps.toList<y.cps.toList):=by
    unfold B1 M4 K0 K1;rw[if_pos z1,if_neg z2];by_cases l:x.cps.toList<y.cps.toList
    ·rw[if_pos l,decide_eq_true l];rfl
    ·rw[if_neg l,decide_eq_false l];rfl
   rw[z3]at h;exact h
 ·have z1:¬((x.length:Nat):Int)=((y.length:Nat):Int):=beq_eq_false_iff_ne.mp e1
  have z3:B1 x y=decide (((x.length:Nat):Int)<((y.length:Nat):Int)):=by
   unfold B1 M4 K0;rw[if_neg z1];by_cases l:((x.length:Nat):Int)<((y.length:Nat):Int)
   ·rw[if_pos l,decide_eq_true l];rfl
   ·rw[if_neg l,decide_eq_false l];rfl
  rw[z3]at h;exact h
end Rg
namespace Rg
open PySem L2
def nP(p:Str×Th):Str×Th:=(p.1,B6 p.2)
abbrev PartsN(H0 H:Hp):List V->List (Str×Th)->Prop:=Paired λv c=>∃p y,v=V.ref p/\H p=some (.tup [.str c.1,y])/\Rep H0 c.2 y
theorem PartsN.mono{H0 H H':Hp}(e:TupsStay H H'){vs:List V}{cs:List (Str×Th)}(h:PartsN H0 H vs cs):PartsN H0 H' vs cs:=Paired.mapP h λ_ _ ⟨p,y,h1,h2,h3⟩=>⟨p,y,h1,e _ _ h2,h3⟩
theorem PartsN.app{H0 H:Hp}:∀{vs ws:List V}{cs ds:List (Str×Th)},PartsN H0 H vs cs->PartsN H0 H ws ds->PartsN H0 H (vs++ws) (cs++ds)
 |_,_,_,_,.nil,h=>h
 |_,_,_,_,.cons r t,h=>.cons r (PartsN.app t h)
theorem PartsN.rev{H0 H:Hp}{vs:List V}{cs:List (Str×Th)}(h:PartsN H0 H vs cs):PartsN H0 H vs.reverse cs.reverse:=by
 induction h with
 |nil=>exact .nil
 |cons r _ ih=>
  rw[reverse_cons,reverse_cons];exact PartsN.app ih (.cons r .nil)
theorem PartsN.len{H0 H:Hp}{vs:List V}{cs:List (Str×Th)}(h:PartsN H0 H vs cs):vs.length=cs.length:=Paired.length h
theorem lH:∀l:Ts,l.toL.map (·.2)=l.ths
 |.nil=>rfl
 |.cons k t r=>by show t::r.toL.map (·.2)=t::r.ths;rw[lH r]
theorem V4{H H':Hp}{a:Addr}{o:HO}(e:Same H H')(h:H a=none):Same H (upd H' a o):=λb u q=>by
 rw[A9 (E6 q h)];exact e b u q
theorem lI{H:Hp}{a b:Addr}{o:HO}(h:upd H a o b=none):b≠a/\H b=none:=by
 by_cases e:b=a
 ·rw[e,A6]at h
  cases h
 ·rw[A9 e]at h
  exact⟨e,h⟩
end Rg
namespace Rg
open PySem L2
section
variable(K:Frag)
theorem Fq:kitOne K (.type "str") (.type "int")=some false:=by kernel_rfl
theorem Fs:kitOne K (.type "list") (.type "int")=some false:=by kernel_rfl
theorem Ft:kitOne K (.type "dict") (.type "int")=some false:=by kernel_rfl
theorem Fu:kitOne K (.type "int") (.type "str")=some false:=by kernel_rfl
theorem vA:kitOne K (.type "str") (.type "str")=some true:=by kernel_rfl
theorem Fv:kitOne K (.type "list") (.type "str")=some false:=by kernel_rfl
theorem Fw:kitOne K (.type "dict") (.type "str")=some false:=by kernel_rfl
end
def Fx:Th->Bool
 |.num _=>true
 |_=>false
def Fy:Th->Bool
 |.word _=>true
 |_=>false
theorem lJ(K:Frag):∀t:Th,kitOne K (.type t.ty) (.type "int")=some (Fx t)
 |.num _=>DU K
 |.word _=>Fq K
 |.row _=>Fs K
 |.dic _=>Ft K
theorem gK(K:Frag):∀t:Th,kitOne K (.type t.ty) (.type "str")=some (Fy t)
 |.num _=>Fu K
 |.word _=>vA K
 |.row _=>Fv K
 |.dic _=>Fw K
theorem vB{α β:Type}{F:α->β->Prop}:∀{xs:List α}{ys:List β},Paired F xs ys->∀(i:Nat)(x:α),xs[i]?=some x->∃y,ys[i]?=some y/\F x y
 |_,_,.nil,i,x,h=>by simp at h
 |_,_,.cons (b:=b) r t,0,x,h=>by
  cases h;exact⟨b,rfl,r⟩
 |_,_,.cons r t,i+1,x,h=>by
  obtain⟨y,h1,h2⟩:=vB t i x (by simpa using h);exact⟨y,by simpa using h1,h2⟩
end Rg
namespace Rg
open PySem PySem.W PySem.Spec PyProof.Rows L2
section
variable{X:Cx}
def Fz(K:Frag):V->List V->Hp->VK->Prop:=λx vs H Q=>∃(bE:Str)(a:Addr)(ys:List Str),x=.str bE/\vs=[.ref a]/\SqL K H a (ys.map V.str)/\bE.length<=16/\(ys.map (·.length)).sum+ys.length<=1048576/\Q (.str (PySem.Txt.join bE ys)) H
theorem lK(K:Frag)(hK:X.K=K:=by rfl):QM X "str.join" (Fz K):=⟨by
 subst hK;intro ζ s σ H x vs v us Q I rx rv h;obtain⟨bE,a,ys,rfl,rfl,ha,h1,h2,q⟩:=h;obtain⟨t,rfl⟩:=rx;obtain⟨u,rfl,ru⟩:=M3 rv;cases ru;obtain⟨its,rvs,pl,hz⟩:=I.list ha;exact join_listW pl.isList (uT rvs) h1 h2 λt' k=>⟨.str (PySem.Txt.join bE ys),H,I.tok _,⟨_,rfl⟩,q⟩⟩
end
end Rg
namespace Rg
open PySem PySem.W PySem.Spec PyProof.Rows L2 Builtin.Str
def Asc(z:Str):Prop:=z.cps.all (· < 128)=true
def Its(z:Str):It:=⟨λi _=>i<z.cps.size,λi H x H'=>H'=H/\∃c,z.cps[i]?=some c/\x=.str ⟨#[c]⟩,λi _=>i=z.cps.size⟩
theorem FA{P:Program}{w:World}{K:Frag}{tg:Expr}(it:Addr)(z:Str)(t:Tok):Turn P w K tg (Its z) [it] it (λi h=>h.IsStrIter it "str_ascii_iterator" z t i) where
 mem:=by simp
 obj:=λi h st b hb=>by
  have e:b=it:=by simpa using hb
  subst e;obtain⟨o,e,c,d⟩:=st;exact⟨o,e,λv y=>by rw[d]at y;cases y⟩
 keep:=λi h h' st k=>by
  obtain⟨o,e,c,d⟩:=st;exact⟨o,k it (!2) o e,c,d⟩
 item:=by
  intro X hP hw hK hc i ζ s σ H E I hf st hg;subst hP hw hK;have hi:i<z.cps.size:=hg;obtain⟨f0,f1,f2,f3,f4,f5⟩:=hf it (!2);refine wpAny_pyNext_ascii_item st (c:=z.cps[i]) (by simp[hi]) λh' st' sb=>?_
  have I1:Inv X ζ σ H {s with heap:=h',toks:=s.toks+1}:=I.turned (t':=s.toks+1) (λb o hb e=>(sb.2 b hb).trans e) f0 f1 f3 f4 f5;obtain⟨o,e,c,d⟩:=id st';exact⟨_,rfl,eR (s:={s with heap:=h',toks:=s.toks+1}) e c d (!3) ⟨.str ⟨#[z.cps[i]]⟩,H,I1,⟨_,rfl⟩,⟨rfl,_,by simp[hi],rfl⟩,st',λb hb=>(hf b hb).1⟩⟩
 done:=by
  intro X hP hw hK hc i ζ s σ H E I hf st hg;subst hP hw hK;have hi:i=z.cps.size:=hg;obtain⟨f0,f1,f2,f3,f4,f5⟩:=hf it (!2);exact wpAny_pyNext_ascii_end (I.ok.hd hc) st (by simp[hi]) λh' eb=>⟨rfl,I.turned (t':=s.toks) (λb o hb e=>eb b o hb e) f0 f1 f3 f4 f5⟩
 self:=λ_ _ _ _ _ st h=>wpAny_pyIter_striter_ascii st h
section
variable{X:Cx}{tg l:Expr}{tl:TE}
def vC(tl:TE):TI:=fun σ H R=>tl σ H λx H1=>∃z,x=.str z/\Asc z/\R (Its z) H1
theorem FB(hl:PE X l tl):PI X tg l (vC tl):=by
 intro ζ s σ H R I h;refine A7 (hl ζ s σ H _ I h) λv s1 h1=>?_
 obtain⟨x,H1,I1,rx,z,rfl,hz,q⟩:=h1;obtain⟨t,rfl⟩:=rx;refine wpAny_pyIter_ascii hz ?_;have I2:Inv X ζ σ H1 {s1 with heap:=s1.heap.push {cls:=.type "str_ascii_iterator",data:=.fields #[.str z t,.int 0 0]} }:=I1.kept (t':=s1.toks) λb o y=>Heap.get?_push_of_some _ y
 refine⟨s1.heap.objs.size,[s1.heap.objs.size],_,Its z,H1,rfl,I2,FA _ z t,⟨_,Heap.get?_push_size _ rfl,rfl,rfl⟩,λc hc=>?_,q⟩;have e:c=s1.heap.objs.size:=by simpa using hc
 subst e;exact I1.fpOk (le_refl _) (I1.hok.fresh (le_refl _))
theorem vD(K:Frag)(hl:QE X l tl):QI X tg l (vC tl):=⟨FB hl.h⟩
theorem vE{z:Str}:Walk (Its z) (λ_=>True) z.cps.size (λi v H H'=>H'=H/\∃c,z.cps[i]?=some c/\v=.str ⟨#[c]⟩) where
 go:=λi H q hi=>hi
 stop:=λi H q hi=>hi
 yld:=λi H v H' q hi y=>y
theorem lM:QOp X (compareOp .In) (λy x H Q=>∃a b:Str,y=.str b/\x=.str a/\Q (.bl (Txt.contains a b)) H):=⟨by
 intro ζ s σ H y x v u Q I ry rx h;obtain⟨a,b,rfl,rfl,q⟩:=h;obtain⟨t,rfl⟩:=ry;obtain⟨t',rfl⟩:=rx;exact P.in_str ⟨.bl _,H,I,rfl,q⟩⟩
theorem lN:QOp X (binaryOp .Mult) (λx y H Q=>∃(z:Str)(n:Int),x=.str z/\y=.int n/\MulOk z n/\Q (.str (Txt.mul z n)) H):=⟨by
 intro ζ s σ H x y v u Q I rx ry h;obtain⟨z,n,rfl,rfl,ok,q⟩:=h;obtain⟨t,rfl⟩:=rx;obtain⟨t',rfl⟩:=ry;exact SB.mul ok λt' k=>⟨.str _,H,I.tok _,⟨_,rfl⟩,q⟩⟩
theorem FD:QM X "str.startswith" (λx vs H Q=>∃z y:Str,x=.str z/\vs=[.str y]/\Q (.bl (Txt.startswith z y)) H):=⟨by
 intro ζ s σ H x vs v us Q I rx rv h;obtain⟨z,y,rfl,rfl,q⟩:=h;obtain⟨t,rfl⟩:=rx;obtain⟨u,rfl,ru⟩:=M3 rv;obtain⟨t',rfl⟩:=ru;exact SC.startswith ⟨.bl _,H,I,rfl,q⟩⟩
theorem vF:QC X (.type "str") (λxs H Q=>∃i:Int,xs=[.int i]/\i.natAbs.log2<1920/\Q (.str (toString i)) H):=⟨by
 intro ζ s σ H xs us Q I r h;obtain⟨i,rfl,hi,q⟩:=h;obtain⟨u,rfl,t,rfl⟩:=M3 r;exact P.str_of_int hi ⟨.str _,H,I.tok _,⟨_,rfl⟩,q⟩⟩
theorem lO:QC X (.type "int") (λxs H Q=>((∃i,xs=[.int i]/\Q (.int i) H)∨∃k,xs=[.bl k]/\Q (.int (if k then 1 else 0)) H)∨∃(x:Str)(n:Int),xs=[.str x]/\PySem.intText? x=some n/\x.length<=640/\Q (.int n) H):=⟨by
 intro ζ s σ H xs us Q I r h;rcases h with h|⟨x,n,rfl,hn,hl,q⟩
 ·exact BN ζ s σ H xs us Q I r h
 ·obtain⟨u,rfl,t,rfl⟩:=M3 r
  exact KIN.call_text hn hl ⟨.int n,H,I.tok _,⟨_,rfl⟩,q⟩⟩
theorem FE:SlR X (λx lo hi H Q=>∃z:Str,x=.str z/\z.length<=sizeLine/\Q (.str (Txt.slice z lo hi)) H):=by
 intro ζ s σ H x v vl vu lo hi sl Q I rx hs pl pu h;obtain⟨z,rfl,hz,q⟩:=h;obtain⟨t,rfl⟩:=rx;refine⟨"str",_,F.slot_str_getitem.lookup,typeIs_str _ _ _,?_⟩;cases pl<;>cases pu
 ·exact wpAny_getItem_str_slice (l:=none) (u:=none) (st:=none) hs rfl (post_val_or_str ⟨le_trans (Txt.slice_le z _ _) hz,λt' k=>⟨.str _,H,I.tok _,⟨_,rfl⟩,q⟩⟩)
 ·exact wpAny_getItem_str_slice (l:=none) (u:=some (_,_)) (st:=none) hs rfl (post_val_or_str ⟨le_trans (Txt.slice_le z _ _) hz,λt' k=>⟨.str _,H,I.tok _,⟨_,rfl⟩,q⟩⟩)
 ·exact wpAny_getItem_str_slice (l:=some (_,_)) (u:=none) (st:=none) hs rfl (post_val_or_str ⟨le_trans (Txt.slice_le z _ _) hz,λt' k=>⟨.str _,H,I.tok _,⟨_,rfl⟩,q⟩⟩)
 ·exact wpAny_getItem_str_slice (l:=some (_,_)) (u:=some (_,_)) (st:=none) hs rfl (post_val_or_str ⟨le_trans (Txt.slice_le z _ _) hz,λt' k=>⟨.str _,H,I.tok _,⟨_,rfl⟩,q⟩⟩)
theorem vG{e:Expr}{lo hi:Option Expr}{te:TE}{tl th:TO}{p2 pos:Pos}(he:QE X e te)(hl:QO X lo tl)(hu:QO X hi th):QE X (.Subscript e (.Slice lo hi none p2) pos) (jA (λx lo hi H Q=>∃z:Str,x=.str z/\z.length<=sizeLine/\Q (.str (Txt.slice z lo hi)) H) te tl th):=⟨rR FE he.h hl.h hu.h⟩
theorem cZ{x z:Str}{pos:Pos}(hg:Gl X x)(hm:∃t,X.mg x=some (.str z t))(hd:(x==("__debug__" : Str))=false:=by decide):QE X (.Name x pos) (tC (.str z)):=by
 obtain⟨t,h⟩:=hm;exact uH hg h ⟨_,rfl⟩ hd
theorem dA{x:Str}{i:Int}{pos:Pos}(hg:Gl X x)(hm:∃t,X.mg x=some (.int i t))(hd:(x==("__debug__" : Str))=false:=by decide):QE X (.Name x pos) (tC (.int i)):=by
 obtain⟨t,h⟩:=hm;exact uH hg h ⟨_,rfl⟩ hd
end
def bH(c:Nat):Bool:=decide (97<=c)&&decide (c<=122)
def L3(c:Nat):Bool:=decide (48<=c)&&decide (c<=57)
theorem FF{c:Nat}(h:c<128):Txt.contains "abcdefghijklmnopqrstuvwxyz" ⟨#[c]⟩=bH c:=by
 have:∀c<128,Txt.contains "abcdefghijklmnopqrstuvwxyz" ⟨#[c]⟩=bH c:=by decide +kernel
 exact this c h
theorem FG{c:Nat}(h:c<128):Txt.contains "0123456789" ⟨#[c]⟩=L3 c:=by
 have:∀c<128,Txt.contains "0123456789" ⟨#[c]⟩=L3 c:=by decide +kernel
 exact this c h
theorem Asc.at{z:Str}(h:Asc z){i c:Nat}(e:z.cps[i]?=some c):c<128:=by
 have h':z.cps.all (· < 128)=true:=h;rw[Array.all_eq_true]at h';obtain⟨hi,rfl⟩:=Array.getElem?_eq_some_iff.mp e;exact of_decide_eq_true (h' i hi)
theorem dB{K:Frag}{H:Hp}{z:Str}{Q:VK}(hz:z.length<=sizeLine)(q:Q (.int (z.length:Nat)) H):Z2 K [.str z] H Q:=by
 unfold Z2;exact .inl ⟨_,_,rfl,⟨hz,rfl⟩,q⟩
end Rg
namespace Rg
open PySem PySem.W PySem.Spec PyProof.Rows L2 PySem.NumText Builtin.Str
def nT(n:Int):Str:=Str.ofString (toString n)
def dg(m:Nat):List Nat:=(Nat.toDigits 10 m).map Char.toNat
theorem gL(m:Nat):(nT (m:Nat)).cps.toList=dg m:=KIN.signs_num m
theorem lP(m:Nat):(nT (-((m+1:Nat):Int))).cps.toList=45::dg (m+1):=by
 have e:toString (-((m+1:Nat):Int))="-"++Nat.repr (m+1):=rfl;unfold nT;rw[e,PyProof.Rows.signs_ofString,String.toList_append,Nat.toList_repr];rfl
theorem bI(m:Nat):AllDigits (dg m):=by
 intro c hc;obtain⟨ch,hch,e⟩:=mem_map.mp hc;rw[←e];exact PyProof.Rows.digit_range (Nat.isDigit_of_mem_toDigits (!3) (!3) hch)
theorem FH{m:Nat}(h:¬m<10):Nat.toDigits 10 m=Nat.toDigits 10 (m / 10)++Nat.toDigits 10 (m % 10):=by
 have t:Nat.toDigits 10 (m / 10)++Nat.toDigits 10 (m % 10)=Nat.toDigits 10 (10*(m / 10)+m % 10):=Nat.toDigits_append_toDigits (!3) (!1) (!1);rw[Nat.div_add_mod]at t;exact t.symm
theorem dD:∀(k m:Nat),m<10^(k+1)->1<=(dg m).length/\(dg m).length<=k+1
 |0,m,h=>by
  unfold dg;rw[length_map,Nat.toDigits_of_lt_base (by simpa using h)];exact⟨le_refl _,le_refl _⟩
 |k+1,m,h=>by
  unfold dg;rw[length_map];by_cases hm:m<10
  ·rw[Nat.toDigits_of_lt_base hm]
   exact⟨le_refl _,by show 1<=_;omega⟩
  ·have ih:=dD k (m / 10) (by rw[Nat.pow_succ]at h;omega)
   unfold dg at ih;rw[length_map]at ih;rw[FH hm,length_append,Nat.toDigits_of_lt_base (show m % 10<10 by omega)];show 1<=_+1/\_+1<=_;omega
theorem lQ:∀(k:Nat)(cs:List Nat),cs.length=k->AllDigits cs->digitsVal cs<10^k
 |0,cs,hl,_=>by
  rw[List.eq_nil_of_length_eq_zero hl];exact one_pos
 |k+1,cs,hl,h=>by
  rcases List.eq_nil_or_concat cs with e|⟨ini,c,e⟩
  ·rw[e]at hl;cases hl
  ·rw[List.concat_eq_append]at e
   subst e;rw[length_append]at hl;have ih:=lQ k ini (by simpa using hl) λd hd=>h d (mem_append_left _ hd)
   have hc:=h c (mem_append_right _ (mem_singleton.mpr rfl));rw[digitsVal_snoc,Nat.pow_succ];omega
theorem gM(z:Str):Txt.startswith z "-"=true↔∃cs,z.cps.toList=45::cs:=by
 unfold Txt.startswith;rw[StrLaws.subAt_eq,drop_zero];have hl:z.length=z.cps.toList.length:=by simp[Str.length]
 have h1:("-" : Str).length=1:=by decide +kernel
 have h2:("-" : Str).cps.toList=[45]:=by decide +kernel
 rw[h1,h2,hl];cases z.cps.toList with
 |nil=>simp
 |cons c cs=>
  simp only[length_cons,take_succ_cons,List.take_zero,Bool.and_eq_true,decide_eq_true_eq,beq_iff_eq,List.cons.injEq,and_true];constructor
  ·rintro ⟨_,rfl⟩;exact⟨cs,rfl,rfl⟩
  ·rintro ⟨_,rfl,_⟩;exact⟨!1,rfl⟩
theorem gN{z:Str}{c:Nat}{cs:List Nat}(h:z.cps.toList=c::cs):(Txt.slice z (some 1) none).cps.toList=cs:=by
 have e:=StrLaws.sliceText_from (x:=z) (i:=1) ⟨!3,by rw[h,length_cons];omega⟩;rw[show Txt.slice z (some 1) none=_ from e,h];show((c::cs).drop 1).take _=cs;rw[List.drop_succ_cons,drop_zero,take_of_length_le (by rw[length_cons];omega)]
def L4(z:Str):Str:=if Txt.startswith z "-"=true then Txt.slice z (some 1) none else z
def Q1(z:Str):Bool:=decide (1<=(L4 z).length)&&decide ((L4 z).length<=60)&&(L4 z).cps.toList.all L3&&decide (nT ((PySem.intText? z).getD 0)=z)
theorem gO{cs:List Nat}:cs.all L3=true↔AllDigits cs:=by
 rw[all_eq_true];unfold AllDigits L3;constructor
 ·intro h c hc
  have:=h c hc;simpa using this
 ·intro h c hc
  simpa using h c hc
theorem lR{n:Nat}(h:n<10^60):n.log2<1920:=by
 rcases Nat.eq_zero_or_pos n with e|e
 ·subst e;decide
 ·rw[Nat.log2_lt (!1)]
  exact lt_of_lt_of_le h (!0)
theorem C2(z:Str):z.length=z.cps.toList.length:=by simp[Str.length]
theorem vH{z:Str}(h1:1<=(L4 z).length)(h2:(L4 z).length<=60)(h3:(L4 z).cps.toList.all L3=true):∃n,PySem.intText? z=some n/\n.natAbs<10^60/\z.length<=61:=by
 have h3:=gO.mp h3;unfold L4 at h1 h2 h3;by_cases hs:Txt.startswith z "-"=true
 ·rw[if_pos hs]at h1 h2 h3
  obtain⟨cs,e⟩:=(gM z).mp hs;rw[C2,gN e]at h1 h2;rw[gN e]at h3;have hz:z.length<=61:=by rw[C2,e,length_cons];omega
  refine⟨_,intText_neg e h3 (λz=>by rw[z]at h1;cases h1) (!1),?_,hz⟩;rw[Int.natAbs_neg,Int.natAbs_natCast];exact lt_of_lt_of_le (lQ _ cs rfl h3) (Nat.pow_le_pow_right (!3) h2)
 ·rw[if_neg hs]at h1 h2 h3
  rw[C2]at h1 h2;refine⟨_,intText_digits h3 (λz=>by rw[z]at h1;cases h1) (by rw[C2];omega),?_,by rw[C2];omega⟩;rw[Int.natAbs_natCast];exact lt_of_lt_of_le (lQ _ _ rfl h3) (Nat.pow_le_pow_right (!3) h2)
theorem gP{n:Int}(h:n.natAbs<10^60):PySem.intText? (nT n)=some n/\(nT n).length<=61/\1<=(L4 (nT n)).length/\(L4 (nT n)).length<=60/\(L4 (nT n)).cps.toList.all L3=true:=by
 rcases(show n<0∨0<=n by omega)with hn|hn
 ·obtain⟨m,rfl⟩:∃m:Nat,n=-((m+1:Nat):Int):=⟨n.natAbs-1,!1⟩
  rw[Int.natAbs_neg,Int.natAbs_natCast]at h;have e:=lP m;have hl:=dD 59 (m+1) h;have hs:=(gM _).mpr ⟨_,e⟩;have hz:(nT (-((m+1:Nat):Int))).length<=61:=by rw[C2,e,length_cons];omega
  have hi:=intText_neg e (bI _) (λz=>by rw[z]at hl;exact absurd hl.1 (!3)) (!1);rw[show digitsVal (dg (m+1))=m+1 from KIN.val_back _]at hi;refine⟨hi,hz,?_⟩;unfold L4;rw[if_pos hs,C2,gN e];exact⟨hl.1,hl.2,gO.mpr (bI _)⟩
 ·obtain⟨m,rfl⟩:=Int.eq_ofNat_of_zero_le hn
  rw[Int.natAbs_natCast]at h;have e:=gL m;have hl:=dD 59 m h;have hs:¬Txt.startswith (nT (m:Nat)) "-"=true:=λhs=>by
   obtain⟨cs,ec⟩:=(gM _).mp hs;rw[e]at ec;have:=bI m 45 (by rw[ec];exact mem_cons_self);omega
  have hi:=intText_digits (x:=nT (m:Nat)) (by rw[e];exact bI _) (λz=>by rw[e]at z;rw[z]at hl;exact absurd hl.1 (!3)) (by rw[C2,e];omega);rw[e,show digitsVal (dg m)=m from KIN.val_back _]at hi;refine⟨hi,by rw[C2,e];omega,?_⟩;unfold L4;rw[if_neg hs,C2,e];exact⟨hl.1,hl.2,gO.mpr (bI _)⟩
theorem FI{n:Int}(h:n.natAbs<10^60):Q1 (nT n)=true:=by
 obtain⟨h1,h2,h3,h4,h5⟩:=gP h;unfold Q1;rw[decide_eq_true h3,decide_eq_true h4,h5,h1];exact decide_eq_true rfl
theorem vI{z:Str}(h:Q1 z=true):∃n:Int,n.natAbs<10^60/\z=nT n/\PySem.intText? z=some n:=by
 unfold Q1 at h;simp only[Bool.and_eq_true,decide_eq_true_eq]at h;obtain⟨⟨⟨h1,h2⟩,h3⟩,h4⟩:=h;obtain⟨n,e,hn,_⟩:=vH h1 h2 h3;rw[e]at h4;exact⟨n,hn,h4.symm,e⟩
end Rg
namespace Rg
open PySem PySem.W PySem.Spec PyProof.Rows L2
structure Trc(h:Heap)(a:Addr)(c:Value)(d:Option Addr)(T:Addr)(fl:Value):Prop where
 exc:∃o vs,h.get? a=some o/\o.cls=c/\o.dict=d/\o.data=.fields vs/\vs[1]?=some (.ref T)
 ne:T≠a
 tb:∃o ts,h.get? T=some o/\o.data=.fields ts/\ts[3]?=some fl
structure Nts(fs:List Addr)(a:Addr)(T0:Option Addr)(h h':Heap):Prop where
 keep:∀b o,b∉fs->b≠a->some b≠T0->h.get? b=some o->h'.get? b=some o
 slot:∀b o,b∈fs->b≠a->some b≠T0->h.get? b=some o->∃sl,h'.get? b=some {o with slots:=sl}
 size:h.objs.size<=h'.objs.size
 there:∀b o,h.get? b=some o->∃o',h'.get? b=some o'
theorem FJ(o:Obj)(f:Array Value->Array Value):(o.mapFields f).dict=o.dict:=by
 obtain⟨c,d,dt,sl⟩:=o;cases dt<;>rfl
theorem lS{h:Heap}{a b:Addr}{f:Array Value->Array Value}{o:Obj}(e:h.get? b=some o):∃o',(h.update a (Obj.mapFields f)).get? b=some o':=by
 by_cases q:a=b
 ·subst q
  refine⟨_,Heap.get?_update_self _ e ?_⟩;obtain⟨c,d,dt,sl⟩:=o;have z:=(Heap.get?_some_iff.mp e).2;cases dt<;>first|rfl|exact z
 ·exact⟨o,(Heap.get?_update_other _ _ q).trans e⟩
section
variable{M:Model}{A:Around}{E:Value->Shared->Prop}{s:Shared}{base:Heap}{env:Env}{outer:List Env}{L a:Addr}{Q:Unit->Shared->Prop}
theorem vJ{oe:Obj}{vs:Array Value}{hd:Value}{nx:Bool}(hfr:A.frames=some (env::outer))(hl:s.heap.FunFrames base (env::outer))(hf:env.frame=some L)(he:s.heap.get? a=some oe)(hv:oe.data=.fields vs)(hz:1<vs.size)
  (h:∀h' T,s.heap.objs.size<=T->Trc h' a oe.cls oe.dict T (rawInt L)->Nts ((env::outer).filterMap (·.frame)) a none s.heap h'->Q () {s with heap:=h'}):
  wpAny M A (do setField (.ref a) 1 (←EntryCells.newEntry hd (←frameOf env) .none (rawInt L) .none (←entryPlaceOf L nx))) Q E s:=by
 have na:a∉(env::outer).filterMap (·.frame):=λm=>by
  obtain⟨_,o,ho,nf⟩:=hl.mem m;rw[he]at ho;cases ho;exact nf vs hv
 refine wpAny_bind (wpAny_frameOf_fun hfr hl hf λh1 s1=>?_);refine wpAny_bind (wpAny_entryPlaceOf λpl hp=>?_);unfold EntryCells.newEntry newFields;refine wpAny_bind (wpAny_newObj_type ?_ (hp.sizeOk5 _ _ _ _ _));have e1:h1.get? a=some oe:=(s1.2.1 a na).trans he;generalize hN:({cls:=.type "traceback",dict:=none,data:=.fields ([hd,.ref L,.none,rawInt L,.none]++(if pl.isEmpty then replicate 6 Value.none else pl)).toArray}:Obj)=oN;have hn3:∃ts,oN.data=.fields ts/\ts[3]?=some (rawInt L):=by
  rw[←hN];exact⟨_,rfl,!2⟩
 have nN:oN.isFreed=false:=by rw[←hN];rfl
 have e2:(h1.push oN).get? a=some oe:=Heap.get?_push_of_some _ e1;have nT:h1.objs.size≠a:=ne_of_gt (Heap.lt_size e1);refine wpAny_setField e2 hv hz (h _ h1.objs.size (le_of_eq s1.1.symm) ⟨⟨_,_,Heap.get?_update_self _ e2 (Obj.isFreed_of_fields (Obj.data_mapFields hv _)),Obj.cls_mapFields _ _,FJ _ _,Obj.data_mapFields hv _,by simp[hz]⟩,nT,?_⟩ ⟨λb o m n _ e=>?_,λb o m n _ e=>?_,?_,λb o e=>?_⟩)
 ·obtain⟨ts,t1,t2⟩:=hn3
  exact⟨oN,ts,(Heap.get?_update_other _ _ (Ne.symm nT)).trans (Heap.get?_push_size _ nN),t1,t2⟩
 ·exact(Heap.get?_update_other _ _ (Ne.symm n)).trans (Heap.get?_push_of_some _ ((s1.2.1 b m).trans e))
 ·obtain⟨sl,q⟩:=s1.2.2 b o e
  exact⟨sl,(Heap.get?_update_other _ _ (Ne.symm n)).trans (Heap.get?_push_of_some _ q)⟩
 ·rw[Heap.size_after_update,Heap.size_push,s1.1]
  exact le_succ _
 ·obtain⟨sl,q⟩:=s1.2.2 b o e
  exact lS (Heap.get?_push_of_some _ q)
theorem FK{oe:Obj}{vs:Array Value}(hfr:A.frames=some (env::outer))(hl:s.heap.FunFrames base (env::outer))(hf:env.frame=some L)(he:s.heap.get? a=some oe)(hv:oe.data=.fields vs)(h1:vs[1]?=some .none)
  (h:∀h' T,s.heap.objs.size<=T->Trc h' a oe.cls oe.dict T (rawInt L)->Nts ((env::outer).filterMap (·.frame)) a none s.heap h'->Q () {s with heap:=h'}):
  wpAny M A (noteFrame (.ref a) env) Q E s:=by
 unfold noteFrame;simp only[hf];refine wpAny_bind (wpAny_field he hv h1 ?_);rw[if_neg (!3)];exact vJ hfr hl hf he hv (Array.getElem?_eq_some_iff.mp h1).1 h
theorem FM{c:Value}{d:Option Addr}{T0:Addr}(hfr:A.frames=some (env::outer))(hl:s.heap.FunFrames base (env::outer))(hf:env.frame=some L)(t:Trc s.heap a c d T0 .none)
  (h:∀h' T,s.heap.objs.size<=T->Trc h' a c d T (rawInt L)->Nts ((env::outer).filterMap (·.frame)) a (some T0) s.heap h'->Q () {s with heap:=h'}):
  wpAny M A (noteFrame (.ref a) env) Q E s:=by
 obtain⟨⟨oe,vs,he,hc,hdd,hv,h1⟩,ne,oT,ts,hT,hts,h3⟩:=t;subst hc hdd;unfold noteFrame;simp only[hf];refine wpAny_bind (wpAny_field he hv h1 ?_);rw[if_pos (show(Value.ref T0 != Value.none)=true from by simp)];refine wpAny_bind (wpAny_field hT hts h3 ?_);rw[if_neg (show ¬((Value.none==rawInt L)=true)from by simp[rawInt])];refine wpAny_bind (wpAny_setField hT hts (Array.getElem?_eq_some_iff.mp h3).1 ?_);have other:∀b,b≠T0->(s.heap.update T0 (Obj.mapFields (·.setIfInBounds 3 Value.none))).get? b=s.heap.get? b:=λb hb=>Heap.get?_update_other _ _ (Ne.symm hb)
 have hl':(s.heap.update T0 (Obj.mapFields (·.setIfInBounds 3 Value.none))).FunFrames base (env::outer):=hl.of_keeps λb o hb nf=>⟨o,(other b λq=>by
  rw[q,hT]at hb;cases hb;exact nf ts hts).trans hb,rfl⟩
 refine vJ hfr hl' hf ((other a (Ne.symm ne)).trans he) hv (Array.getElem?_eq_some_iff.mp h1).1 λh' T z t' n=>h h' T ?_ t' ⟨λb o m q r e=>?_,λb o m q r e=>?_,?_,λb o e=>?_⟩
 ·rw[Heap.size_after_update]at z;exact z
 ·exact n.keep b o m q (!2) ((other b λw=>r (by rw[w])).trans e)
 ·exact n.slot b o m q (!2) ((other b λw=>r (by rw[w])).trans e)
 ·have:=n.size;rw[Heap.size_after_update]at this;exact this
 ·obtain⟨o',e'⟩:=lS (a:=T0) (f:=(·.setIfInBounds 3 Value.none)) e
  exact n.there b o' e'
theorem FN{c:Value}{d:Option Addr}{T:Addr}{fl:Value}(t:Trc s.heap a c d T fl)
  (h:∀h',Trc h' a c d T .none->(∀b,b≠T->h'.get? b=s.heap.get? b)->h'.objs.size=s.heap.objs.size->(∀b o,s.heap.get? b=some o->∃o',h'.get? b=some o')->Q () {s with heap:=h'}):wpAny M A (setFlight (.ref a) none) Q E s:=by
 obtain⟨⟨oe,vs,he,hc,hdd,hv,h1⟩,ne,oT,ts,hT,hts,h3⟩:=t;unfold setFlight;refine wpAny_bind (wpAny_field he hv h1 ?_);rw[if_pos (show(Value.ref T != Value.none)=true from by simp)];have hz:3<ts.size:=(Array.getElem?_eq_some_iff.mp h3).1;refine wpAny_setField hT hts hz (h _ ⟨⟨oe,vs,(Heap.get?_update_other _ _ ne).trans he,hc,hdd,hv,h1⟩,ne,_,_,Heap.get?_update_self _ hT (Obj.isFreed_of_fields (Obj.data_mapFields hts _)),Obj.data_mapFields hts _,by simp[hz]⟩ (λb hb=>Heap.get?_update_other _ _ (Ne.symm hb)) (Heap.size_after_update ..) λb o e=>lS e)
theorem FO{T0:Option Addr}{c:Value}{d:Option Addr}(hfr:A.frames=some (env::outer))(hl:s.heap.FunFrames base (env::outer))(hf:env.frame=some L)
  (t:(∃oe vs,s.heap.get? a=some oe/\oe.cls=c/\oe.dict=d/\oe.data=.fields vs/\vs[1]?=some .none/\T0=none)∨∃T,Trc s.heap a c d T .none/\T0=some T)
  (h:∀h' T,s.heap.objs.size<=T->Trc h' a c d T .none->Nts ((env::outer).filterMap (·.frame)) a T0 s.heap h'->Q () {s with heap:=h'}):
  wpAny M A (noteFrame (.ref a) env) (λ_ s'=>wpAny M A (setFlight (.ref a) none) Q E s') E s:=by
 have fin:∀h' T,s.heap.objs.size<=T->Trc h' a c d T (rawInt L)->Nts ((env::outer).filterMap (·.frame)) a T0 s.heap h'->wpAny M A (setFlight (.ref a) none) Q E {s with heap:=h'}:=λh' T z t' n=>by
  refine FN (s:={s with heap:=h'}) t' λh2 t2 k2 z2 th2=>?_
  have nT:∀b o,s.heap.get? b=some o->b≠T:=λb o e q=>by
   have:=Heap.lt_size e;rw[q]at this;exact absurd (lt_of_lt_of_le this z) (lt_irrefl _)
  refine h h2 T z t2 ⟨λb o m q r e=>(k2 b (nT b o e)).trans (n.keep b o m q r e),λb o m q r e=>?_,by rw[z2];exact n.size,λb o e=>?_⟩
  ·obtain⟨sl,e'⟩:=n.slot b o m q r e
   exact⟨sl,(k2 b (nT b o e)).trans e'⟩
  ·obtain⟨o',e'⟩:=n.there b o e
   exact th2 b o' e'
 rcases t with⟨oe,vs,he,hc,hdd,hv,h1,rfl⟩|⟨T,t,rfl⟩
 ·subst hc hdd
  exact FK hfr hl hf he hv h1 fin
 ·exact FM hfr hl hf t fin
end
end Rg
namespace Rg
open PySem PySem.W PySem.Spec PyProof.Rows L2
theorem FP{P:Program}{w:World}{H:Hp}{h h':Heap}{fs:List Addr}{a:Addr}{T0:Option Addr}(ok:HOk P w H h)(n:Nts fs a T0 h h')(hf:∀b∈fs,H b=none)(ha:H a=none)(hT:∀T,T0=some T->H T=none):HOk P w H h':=λb o e=>by
 refine(ok b o e).stay (λc u hc q=>?_) (λ_ q=>q) λ_ _ q=>q
 have hn:H c≠none:=by
  rcases hc with rfl|z
  ·rw[e];intro z;cases z
  ·rw[z];intro z;cases z
 exact n.keep c u (λm=>hn (hf c m)) (λz=>hn (z ▸ ha)) (λz=>hn (hT c z.symm)) q
def F9(P:Program)(w:World):O9:=λouter H s E e s'=>∃(a:Addr)(c:Value)(d:Option Addr)(T:Addr)(H':Hp),e=.ref a/\s'.os=s.os/\AllBare s'.gens/\Un (N4 outer) [] H H' s.heap s'.heap/\HOk P w H' s'.heap/\
 Trc s'.heap a c d T .none/\H' a=none/\H' T=none/\s.heap.objs.size<=a/\s.heap.objs.size<=T/\E c d H'
section
variable{P:Program}{w:World}{K:Frag}{mg:Str->Option Value}{base:Heap}{N:List Str}{qual:Str}{scope:Scope}{f:Addr}{cd:Value}{A:Around}{outer:List Env}{s s1:Shared}{H H1:Hp}{E:XK}{ζ:List (Addr×Obj)}{σ:L2.St}
theorem vK{a:Addr}{c:Value}{d T0:Option Addr}(I:Inv (J3 (F9 P w) P w K mg base N qual scope f cd A outer s H E) ζ σ H1 s1)
  (t:(∃oe vs,s1.heap.get? a=some oe/\oe.cls=c/\oe.dict=d/\oe.data=.fields vs/\vs[1]?=some .none/\T0=none)∨∃T,Trc s1.heap a c d T .none/\T0=some T) (ha:H1 a=none) (na:s.heap.objs.size<=a)
  (hT:∀T,T0=some T->H1 T=none/\s.heap.objs.size<=T) (q:E c d H1):(J3 (F9 P w) P w K mg base N qual scope f cd A outer s H E).xe (.ref a) s1:=by
 show wpAny (model P w) (A.deeper (envOfC qual scope s.heap.objs.size f cd)) (leaving (envOfC qual scope s.heap.objs.size f cd) (.ref a)) _ _ s1;unfold leaving;refine wpAny_bind (FO (base:=base) (L:=s.heap.objs.size) (outer:=outer) I.ok.frames I.stack rfl t λh' T z t' n=>?_);have lt:∀b o,s.heap.get? b=some o->b≠a/\some b≠T0/\b≠s.heap.objs.size:=λb o e=>by
  have hb:=Heap.lt_size e;refine⟨λz=>?_,λz=>?_,λz=>?_⟩
  ·rw[z]at hb;exact absurd (lt_of_lt_of_le hb na) (lt_irrefl _)
  ·exact absurd (lt_of_lt_of_le hb (hT b z.symm).2) (lt_irrefl _)
  ·rw[z]at hb;exact absurd hb (lt_irrefl _)
 have u:=I.base;refine⟨a,c,d,T,H1,rfl,I.os,I.bare,⟨λb o e hn m x=>?_,λb o e hn m x=>?_,u.free,λb o e x=>?_,u.tups,u.frzs,u.tbls⟩,FP I.hok n (λb hb=>?_) ha λT e=>(hT T e).1,t',ha,I.hok.fresh z,na,le_trans I.sz z,q⟩
 ·obtain⟨l1,l2,l3⟩:=lt b o e
  refine n.keep b o (λhb=>?_) l1 l2 (u.keep b o e hn m x);rcases mem_cons.mp (show b∈s.heap.objs.size::N4 outer from hb)with y|y
  ·exact l3 y
  ·exact m y
 ·obtain⟨l1,l2,l3⟩:=lt b o e
  obtain⟨sl,e1⟩:=u.slot b o e hn m x;obtain⟨sl',e2⟩:=n.slot b _ (show b∈s.heap.objs.size::N4 outer from mem_cons_of_mem _ m) l1 l2 e1;exact⟨sl',e2⟩
 ·obtain⟨o',e1⟩:=u.there b o e x
  exact n.there b o' e1
 ·exact I.stkFree b hb
theorem Q2:Y6 (F9 P w) (J3 (F9 P w) P w K mg base N qual scope f cd A outer s H E) E:=fun ζ σ H1 s1 e s2 I h=>by
 obtain⟨a,c,d,T,H',rfl,os,bare,un,hok,t,ha,hT,na,nT,q⟩:=h;have I2:=I.call' (ch:=[]) os un hok bare λb z=>absurd z (!2)
 have z:s.heap.objs.size<=s1.heap.objs.size:=I.sz;exact vK I2 (.inr ⟨T,t,rfl⟩) ha (le_trans z na) (λT' e=>by cases e;exact⟨hT,le_trans z nT⟩) q
theorem vL:PassesOwn (model P w) (J3 (F9 P w) P w K mg base N qual scope f cd A outer s H E).A (J3 (F9 P w) P w K mg base N qual scope f cd A outer s H E).env (J3 (F9 P w) P w K mg base N qual scope f cd A outer s H E).xe:=λe s' h=>by
 exact wpAny_leaving_again (SameStack.refl _) h
theorem Fun.okx{x qual:Str}{st:Stmt}{f:Addr}{fd:FuncData}{N ps:List Str}{k:Nat}{sp:Sp}(F:Fun K x qual st f fd)(S:FnScope N ps (B4 st))(len:∀vs H Q E,sp vs H Q E->vs.length=ps.length)
  (hbody:∀(cdv:Value)(A:Around)(outer:List Env)(s:Shared)(H:Hp)(vs:List V)(Q:VK)(E:XK),Room k (A.deeper (envOfC qual (B4 st) s.heap.objs.size f cdv))->sp vs H Q E->
   ∃t,PSs (J3 (F9 P w) P w K mg base N qual (B4 st) f cdv A outer s H E) (N5 st) t/\t {nx:=λ_ H'=>Q .non H',rt:=Q} (start N vs) H):FnOk P w K mg base (F9 P w) (k+1) f fd ps sp:=by
 obtain⟨oc,od,kV,doc,pm,an,cdv,ct,osl,rfl,lk,hcd⟩:=F.ex;exact iZ lk hcd S len λA outer s H vs Q E hr hsp=>hbody cdv A outer s H vs Q E hr hsp
end
def M9(P:Program)(w:World)(K:Frag)(mg:Str->Option Value)(base:Heap)(x:Str)(k:Nat)(ps:List Str)(sp:Sp):Prop:=
 ∃f fd,FnOk P w K mg base (F9 P w) k f fd ps sp/\Binds K fd ps []/\keepIn K (.ref f)=true/\mg x=some (.ref f)
theorem Q4{X:Cx}{x:Str}{k j:Nat}{ps:List Str}{sp:Sp}{p pos:Pos}{e:Expr}{es:List Expr}{t:TA}{E:XK}(h:M9 X.prog X.w X.K X.mg X.base x k ps sp)(hp:Y6 (F9 X.prog X.w) X E)(hr:Room j X.A)(hkj:k<=j)(hg:Gl X x)(ha:QA X (e::es) t)
  (hdb:(x==("__debug__" : Str))=false:=by decide) (hs:L8 (e::es)=true:=by rfl):QE X (.Call (.Name x p) (e::es) [] pos) (eY sp [] E t):=by
 obtain⟨f,fd,F,b,kp,m⟩:=h;exact⟨iY F (hr.mono hkj) hg m kp b .nil hp ha.h hdb (N7 (L9 hs).1) (U8 (L9 hs).2)⟩
end Rg
namespace Rg
open PySem Builtin Builtin.ObjectAttr
section
variable{M:Model}{prog:Program}{w:World}{A:Around}{E:Value->Shared->Prop}{h:Heap}{g:Array GenState}{d:Drawn}{t:Nat}{os:OsState}
variable{nm q:Str}{C N G x:Addr}{bs bm:List Value}{sn:List Str}{sub:List Value}{ab:Bool}{col:Option Bool}{dd:Option Addr}{k0 k1 k2 k3 k5:Option Value}{B Bn newId nid initId inN sa owner:String}{bmN:List Value}
 {c0:Value} {dG:Option Addr} {cG:ClassData} {sG:Array (Option Value)} {mN mG mA:Str->Option Value} {name:Str} {v:Value}
theorem FQ{y:Option Value}{Q:Option Value->Shared->Prop}(hC:h.get? C=some (excClassObj nm q C N bs (.ref G::bm) true sn sub ab col dd k0 k1 k2 k3 k5 newId))(hn:h.Ns N mN)
  (hG:h.get? G=some {cls:=c0,dict:=dG,data:=.cls cG,slots:=sG}) (hg:h.Ns cG.ns mG) (hb:mroOf (.type B)=pure bm) (hB:typeLookup (.type B) name=pure y)
  (hq:Q (match mN name with|some v=>some v|none=>match mG name with|some v=>some v|none=>y) ⟨h,g,d,t,os⟩):wpAny M A (typeLookup (.ref C) name) Q E ⟨h,g,d,t,os⟩:=by
 have hr:lookupAlong bm name=pure y:=by rw[typeLookup_eq,hb]at hB;exact hB
 rw[typeLookup_eq];refine wpAny_bind (wpAny_mroOf_exc hC ?_);rw[lookupAlong_cons];refine wpAny_bind (wpAny_classOwn_exc hC hn ?_);cases hv:mN name with
 |some v=>rw[hv]at hq;exact wpAny_pure hq
 |none=>
  rw[hv]at hq;show wpAny M A (lookupAlong (.ref G::bm) name) Q E _;rw[lookupAlong_cons];refine wpAny_bind (wpAny_classOwn_cls hG hg ?_);cases hw:mG name with
  |some v=>rw[hw]at hq;exact wpAny_pure hq
  |none=>
   rw[hw]at hq;show wpAny M A (lookupAlong bm name) Q E _;rw[hr];exact wpAny_pure hq
end
section
variable{M:Model}{prog:Program}{w:World}{A:Around}{E:Value->Shared->Prop}{h:Heap}{g:Array GenState}{d:Drawn}{t:Nat}{os:OsState}
variable{nm q:Str}{C N G x:Addr}{bs bm:List Value}{sn:List Str}{sub:List Value}{ab:Bool}{col:Option Bool}{dd:Option Addr}{k0 k1 k2 k3 k5:Option Value}{B newId ga:String}
 {c0:Value} {dG:Option Addr} {cG:ClassData} {sG:Array (Option Value)} {mN mG mA:Str->Option Value} {name:Str} {v:Value}
theorem FS{s:Shared}{env:Env}{x:Sem Value}{Q:Flow->Shared->Prop}(hb:bm.contains (.type "BaseException")=true)(hh:A.handled=none)
  (hz:wpAny M A x (λv s₁=>∃e o vs,v=.ref e/\s₁.heap.get? C=some (excClassObj nm q C N bs (.ref G::bm) true sn sub ab col dd k0 k1 k2 k3 k5 newId)/\s₁.heap.get? e=some o/\o.cls=.ref C/\o.data=.fields vs/\vs[1]?=some .none/\E (.ref e) s₁) E s):
  wpAny M A (raiseStmt env (some x) none) Q E s:=by
 have hcB:(Value.ref C::.ref G::bm).contains (.type "BaseException")=true:=by rw[List.contains_cons,List.contains_cons,hb,Bool.or_true,Bool.or_true]
 unfold raiseStmt;refine wpAny_bind (wpAny_mono hz (λv s₁ h₁=>?_) λ_ _ x=>x);obtain⟨e,o,vs,rfl,hC,he,hc,hd,h1,hE⟩:=h₁;obtain⟨hp,g,d,tk,os⟩:=s₁
 repeat (first|(with_reducible refine wpAny_loadPart_at he ?_;rw[hc])|with_reducible refine wpAny_field he hd h1 ?_|with_reducible refine wpAny_loadPart_at hC ?_|(with_reducible refine wpAny_isSubtype_exc hC ?_;rw[hcB])|wp_step)
 exact wpAny_raiseNew_none hh hE
end
end Rg
namespace Rg
open PySem PySem.W PySem.Spec PyProof.Rows L2
abbrev bJ:List Value:=[.type "ValueError",.type "Exception",.type "BaseException",.type "object"]
def ExO(a C:Addr)(d:Option Addr)(nw:Bool):HO:=.ext λh=>∃o vs,h.get? a=some o/\o.cls=.ref C/\o.dict=d/\o.data=.fields vs/\(nw=true->vs[1]?=some .none)
theorem ExO.ok{P:Program}{w:World}{H:Hp}{h:Heap}{a C:Addr}{d:Option Addr}{nw:Bool}(e:∃o vs,h.get? a=some o/\o.cls=.ref C/\o.dict=d/\o.data=.fields vs/\(nw=true->vs[1]?=some .none)):ObjOk P w H h a (ExO a C d nw):=by
 refine⟨e,?_,λh1 h2 p k=>?_⟩
 ·obtain⟨o,vs,q,_⟩:=e
  exact⟨o,q⟩
 ·obtain⟨o,vs,q,r⟩:=p
  exact⟨o,vs,k o q,r⟩
end Rg
namespace Rg
open PySem PySem.W PySem.Spec PyProof.Rows L2
def E8(H:Hp)(a:Addr):Hp:=λb=>if b=a then none else H b
theorem K2{H:Hp}{a b:Addr}(h:b≠a):E8 H a b=H b:=if_neg h
theorem X0{H:Hp}{a:Addr}:E8 H a a=none:=if_pos rfl
section
variable{X:Cx}{ζ:List (Addr×Obj)}{σ:L2.St}{H:Hp}{s:Shared}{x:Str}{C:Addr}{k n:Nat}{fF:List V->List (Str×V)}
theorem Inv.untrack{a C:Addr}{d:Option Addr}{nw:Bool}(I:Inv X ζ σ H s)(ea:H a=some (ExO a C d nw)):Inv X ζ σ (E8 H a) s:=by
 have nn:∀b,H b=none->E8 H a b=none:=λb h=>by
  unfold E8;split
  ·rfl
  ·exact h
 have u:=I.base;refine⟨I.ok,I.os,I.bare,⟨u.keep,u.slot,λb o e n x=>nn b (u.free b o e n x),u.there,λb xs e=>?_,λb o v e=>?_,λb ps e=>?_⟩,I.loc,I.cell,nn _ I.free,λy c e=>nn c (I.freeC y c e),λp hp=>?_,λb o e=>?_,I.len⟩
 ·have:=u.tups b xs e
  rw[K2 (U5 this ea (by intro w;cases w))];exact this
 ·have:=u.frzs b o v e
  rw[K2 (U5 this ea (by intro w;cases w))];exact this
 ·obtain⟨m,q⟩:=u.tbls b ps e
  exact⟨m,by rw[K2 (U5 q ea (by intro w;cases w))];exact q⟩
 ·obtain⟨z1,z2,z3⟩:=I.pin p hp
  exact⟨z1,nn _ z2,z3⟩
 ·have w:b≠a:=λw=>by rw[w,X0]at e;cases e
  rw[K2 w]at e;refine(I.hok b o e).stay (λ_ _ _ q=>q) (λc q=>?_) λc xs q=>?_
  ·rw[K2 (U5 q ea (by intro w;cases w))];exact q
  ·rw[K2 (U5 q ea (by intro w;cases w))];exact q
end
end Rg
namespace Rg
open PySem PySem.W PySem.Spec PyProof.Rows L2
def lT(K:Frag)(C G:Addr)(ns:List Str):Bool:=match K.lookup C with
 |some ⟨.type "type",_,.cls cd,sl⟩=>(match cd.mro,sl.toList with
  |.ref C'::.ref G'::bm,[_,_,_,_,some (.builtin n),_]=>C'==C&&G'==G&&bm==bJ&&n == "ValueError.__new__" && cd.hasDict && !cd.hasDel&&nsOkIn K cd.ns&&ns.all (λx=>nsIn K cd.ns x==some none)
  |_,_=>false)
 |_=>false
def lU(K:Frag)(G:Addr)(ns:List Str):Bool:=match K.lookup G with
 |some ⟨.type "type",_,.cls cd,sl⟩=>(match cd.mro,sl.toList with
  |.ref G'::bm,[_,_,_,_,some (.builtin n),_]=>G'==G&&bm==bJ&&n == "ValueError.__new__" && cd.hasDict && !cd.hasDel&&nsOkIn K cd.ns&&ns.all (λx=>nsIn K cd.ns x==some none)
  |_,_=>false)
 |_=>false
abbrev dE:List Str:=["__init__","__getattribute__","__getattr__","__class__"]
structure XCn(K:Frag)(C G:Addr):Prop where
 cl:lT K C G dE=true
 up:lU K G dE=true
structure XNt(h:Heap)(C G:Addr)(nm q:Str)(N:Addr)(bs:List Value)(sn:List Str)(sub:List Value)(ab:Bool)(col:Option Bool)(dd:Option Addr)(k0 k1 k2 k3 k5:Option Value)(nm' q':Str)(N':Addr)(bs':List Value)(sn':List Str)(sub':List Value)(ab':Bool)(col':Option Bool)(dd':Option Addr)(k0' k1' k2' k3' k5':Option Value)(mN mG:Str->Option Value):Prop where
 hC:h.get? C=some (excClassObj nm q C N bs (.ref G::bJ) true sn sub ab col dd k0 k1 k2 k3 k5 "ValueError.__new__")
 hn:h.Ns N mN
 hG:h.get? G=some (excClassObj nm' q' G N' bs' bJ true sn' sub' ab' col' dd' k0' k1' k2' k3' k5' "ValueError.__new__")
 hg:h.Ns N' mG
 no:∀x∈dE,mN x=none/\mG x=none
theorem XCn.at{K:Frag}{C G:Addr}{h:Heap}(x:XCn K C G)(X:K.In h):∃nm q N bs sn sub ab col dd k0 k1 k2 k3 k5 nm' q' N' bs' sn' sub' ab' col' dd' k0' k1' k2' k3' k5',XNt h C G nm q N bs sn sub ab col dd k0 k1 k2 k3 k5 nm' q' N' bs' sn' sub' ab' col' dd' k0' k1' k2' k3' k5' (h.nsMap N) (h.nsMap N'):=by
 obtain⟨e1,e2⟩:=x;unfold lT at e1;unfold lU at e2;split at e2
 ·rename_i dd' cd' sl' ho'
  split at e2
  ·rename_i G' bm' k0' k1' k2' k3' n' k5' hm' hs'
   simp only[Bool.and_eq_true,all_eq_true,beq_iff_eq,Bool.not_eq_true']at e2;obtain⟨⟨⟨⟨⟨⟨rfl,rfl⟩,rfl⟩,hdct'⟩,hdel'⟩,hok'⟩,hno'⟩:=e2;obtain⟨nm',bs',mro',ns',qn',hd',sn',sub',ab',col',del'⟩:=cd';dsimp only at hm' hdel' hok' hno' hdct';subst hm' hdel' hdct';have hsl':sl'=#[k0',k1',k2',k3',some (.builtin "ValueError.__new__"),k5']:=by
    obtain⟨l⟩:=sl';simp only at hs';rw[hs']
   subst hsl';split at e1
   ·rename_i dd cd sl ho
    split at e1
    ·rename_i C' G' bm k0 k1 k2 k3 n k5 hm hs
     simp only[Bool.and_eq_true,all_eq_true,beq_iff_eq,Bool.not_eq_true']at e1;obtain⟨⟨⟨⟨⟨⟨⟨rfl,rfl⟩,rfl⟩,rfl⟩,hdct⟩,hdel⟩,hok⟩,hno⟩:=e1;obtain⟨nm,bs,mro,ns,qn,hd,sn,sub,ab,col,del⟩:=cd;dsimp only at hm hdel hok hno hdct;subst hm hdel hdct;have hsl:sl=#[k0,k1,k2,k3,some (.builtin "ValueError.__new__"),k5]:=by
      obtain⟨l⟩:=sl;simp only at hs;rw[hs]
     subst hsl;exact⟨nm,qn,ns,bs,sn,sub,ab,col,dd,k0,k1,k2,k3,k5,nm',qn',ns',bs',sn',sub',ab',col',dd',k0',k1',k2',k3',k5',⟨X _ _ ho,.of_isNs (isNs_of_in X hok),X _ _ ho',.of_isNs (isNs_of_in X hok'),λy hy=>⟨nsMap_none_of_in X hok (hno y hy),nsMap_none_of_in X hok' (hno' y hy)⟩⟩⟩
    ·cases e1
   ·cases e1
  ·cases e2
 ·cases e2
section
variable{prog:Program}{w:World}{A:Around}{E:Value->Shared->Prop}{h:Heap}{g:Array GenState}{d:Drawn}{t:Nat}{os:OsState}
variable{nm q:Str}{C N G:Addr}{bs bm:List Value}{sn:List Str}{sub:List Value}{ab:Bool}{col:Option Bool}{dd:Option Addr}{k0 k1 k2 k3 k5:Option Value}{B Bn newId nid initId inN:String}{bmN:List Value}
 {c0:Value} {dG:Option Addr} {cG:ClassData} {sG:Array (Option Value)} {mN mG:Str->Option Value}
theorem FU(Fn:ExcBaseFacts Bn newId inN bmN)(hBn:bm.contains (.type Bn)=true)(F:ExcBaseFacts B nid initId bm){us:List Value}{Q:Fin->Shared->Prop}
  (hC:h.get? C=some (excClassObj nm q C N bs (.ref G::bm) true sn sub ab col dd k0 k1 k2 k3 k5 newId)) (hn:h.Ns N mN) (hG:h.get? G=some {cls:=c0,dict:=dG,data:=.cls cG,slots:=sG}) (hg:h.Ns cG.ns mG)
  (hi0:mG "__init__"=none) (hi:mN "__init__"=none)
  (hq:∀h' e,Heap.MadeExcOf h h' e (.ref C) us->h.objs.size<=e->Q (.done (.ret (.ref e))) ⟨h',g,d,t,os⟩) (hus:us.length<=sizeLine):
  wpAny (model prog w) A (Builtin.«type.__call__» ⟨.ref C::us,[]⟩) Q E ⟨h,g,d,t,os⟩:=by
 have T:OwnTail h bm (.ref G::bm):=.own hG hg hi0 .base
 repeat (first|with_reducible refine wpAny_loadPart_at hC ?_|with_reducible refine wpAny_madeBy_exc hC ?_|wp_step)
 refine codeAny_call_builtin_code (Code.quiet_builtin _ Fn.quiet) (wpAny_check_new_subU Fn hBn T hC ?_);refine codeAny_exc_new_subU Fn hBn F T hC ?_ hus;show wpAny _ _ _ _ _ _;generalize hP:({cls:=.ref C,data:=.fields #[.ref h.objs.size,.none,.none,.none,.bool false,.none]}:Obj)=oP;generalize hT:({cls:=.type "tuple",data:=.seq us.toArray}:Obj)=oT;have nP:oP.isFreed=false:=by rw[←hP];rfl
 have nT:oT.isFreed=false:=by rw[←hT];rfl
 have kp:∀b o,h.get? b=some o->((h.push oT).push oP).get? b=some o:=λb o e=>Heap.get?_push_of_some _ (Heap.get?_push_of_some _ e)
 have hC1:=kp _ _ hC;have hG1:=kp _ _ hG;have hn1:((h.push oT).push oP).Ns N mN:=hn.keeps kp;have hg1:((h.push oT).push oP).Ns cG.ns mG:=hg.keeps kp;have T1:=T.keeps kp;have hs:(h.push oT).objs.size=h.objs.size+1:=Heap.size_push ..;have hget:((h.push oT).push oP).get? (h.objs.size+1)=some oP:=by rw[←hs];exact Heap.get?_push_size _ nP
 have hcls:oP.cls=.ref C:=by rw[←hP]
 have hcC:(Value.ref C::.ref G::bm).contains (.ref C)=true:=by simp
 unfold isInstance
 repeat (first|(with_reducible refine wpAny_loadPart_at hget ?_;rw[hcls])|(with_reducible refine wpAny_isSubtype_exc hC1 ?_;rw[hcC])|wp_step)
 show wpAny _ _ (typeLookup (.ref C) _) _ _ _;refine FQ hC1 hn1 hG1 hg1 F.mroIs F.init.lookup ?_;rw[hi,hi0];refine wpAny_holding (wpAny_bind (wpAny_of_eq (F.init.bind _) ?_));refine wpAny_bind (wpAny_call (codeAny_call_builtin F.init.plain F.initEntry (wpAny_check_init_subU F T1 hC1 hget hcls ?_)));subst hP
 wp_walk
 have h2:((h.push oT).push {cls:=.ref C,data:=.fields #[.ref h.objs.size,.none,.none,.none,.bool false,.none]}).objs.size=h.objs.size+2:=by rw[Heap.size_push,hs]
 refine hq _ _ ⟨λb o hb=>?_,Heap.get?_none_of_le (le_succ _),h.objs.size+2,?_,Heap.get?_none_of_le (!1),?_⟩ (le_succ _)
 ·have ne:h.objs.size+1≠b:=ne_of_gt (lt_succ_of_lt (Heap.lt_size hb))
  exact(Heap.get?_update_other _ _ ne).trans (Heap.get?_push_of_some _ (kp b o hb))
 ·rw[Heap.get?_update_self _ (Heap.get?_push_of_some _ hget) rfl,h2]
  rfl
 ·have ne:h.objs.size+1≠h.objs.size+2:=by omega
  exact(Heap.get?_update_other _ _ ne).trans (Heap.get?_push_at h2.symm rfl)
theorem FV(Fn:ExcBaseFacts Bn newId inN bmN)(hBn:bm.contains (.type Bn)=true)(F:ExcBaseFacts B nid initId bm){us:List Value}{Q:Value->Shared->Prop}
  (hC:h.get? C=some (excClassObj nm q C N bs (.ref G::bm) true sn sub ab col dd k0 k1 k2 k3 k5 newId)) (hn:h.Ns N mN) (hG:h.get? G=some {cls:=c0,dict:=dG,data:=.cls cG,slots:=sG}) (hg:h.Ns cG.ns mG)
  (hi0:mG "__init__"=none) (hi:mN "__init__"=none) (hq:∀h' e,Heap.MadeExcOf h h' e (.ref C) us->h.objs.size<=e->Q (.ref e) ⟨h',g,d,t,os⟩) (hus:us.length<=sizeLine):
  wpAny (model prog w) A (call (.ref C) us) Q E ⟨h,g,d,t,os⟩:=by
 have f1:=tc_lookup;have f2:=tc_bind (.ref C);have hT:(⟨h,g,d,t,os⟩:Shared).TypeIs (.ref C) "type":=⟨_,hC,rfl⟩;refine wpAny_call (codeAny_of_tree ?_);show wpAny _ _ (callAny (.ref C) _) _ _ _
 repeat (any_goals (first|assumption|with_reducible refine wpAny_loadPart_at hC ?_|wp_step))
 refine⟨rfl,?_⟩;refine codeAny_call_builtin_at (Code.quiet_builtin _ (!0)) entry_typeCall (wpAny_check_type_call_sub hC (FU Fn hBn F hC hn hG hg hi0 hi (λh' e hm hz=>?_) hus));exact hq h' e hm hz
end
structure HasN(P:Program)(w:World)(K:Frag)(mg:Str->Option Value)(base:Heap)(x:Str)(C G:Addr):Prop where
 at_:mg x=some (.ref C)
 kp:keepIn K (.ref C)=true
 cl:XCn K C G
section
variable{X:Cx}{ζ:List (Addr×Obj)}{σ:L2.St}{H:Hp}{s:Shared}{x:Str}{C G:Addr}
theorem FW{Q:Value->Shared->Prop}{us:List Value}(c:XCn X.K C G)(I:Inv X ζ σ H s)
  (q:∀e s',H e=none->s.heap.objs.size<=e->Inv X ζ σ (upd H e (ExO e C none true)) s'->Q (.ref e) s') (hz:us.length<=sizeLine):wpAny (model X.prog X.w) X.A (call (.ref C) us) Q X.xe s:=by
 obtain⟨nm,qn,N,bs,sn,sub,ab,col,dd,k0,k1,k2,k3,k5,nm',qn',N',bs',sn',sub',ab',col',dd',k0',k1',k2',k3',k5',z⟩:=c.at I.kIn;obtain⟨n1,n2⟩:=z.no "__init__" (!2);obtain⟨h,g,dr,tk,os⟩:=s;refine FV PySem.F.excBase_ValueError (!3) PySem.F.excBase_ValueError z.hC z.hn z.hG z.hg n2 n1 (λh' e hm he=>?_) hz;obtain⟨t,e1,_,_⟩:=hm.there;have ne:H e=none:=I.hok.fresh he;exact q e _ ne he (I.laid (t':=tk) hm.keeps he (ExO.ok ⟨_,_,e1,rfl,rfl,rfl,λ_=>rfl⟩))
def FX(E:XK)(C:Addr)(t:TA):TS:=λ_ σ H=>t σ H λvs H1=>vs.length<=9/\E (.ref C) none H1
theorem X1{P:Program}{w:World}{K:Frag}{mg:Str->Option Value}{base:Heap}{N:List Str}{qual:Str}{scope:Scope}{fa:Addr}{cd:Value}{A:Around}{outer:List Env}{s0:Shared}{H0:Hp}{E:XK}{e:Expr}{es:List Expr}{t:TA}{np cpos pos:Pos}{j:Nat}
  (h:HasN P w K mg base x C G) (hr:Room j (J3 (F9 P w) P w K mg base N qual scope fa cd A outer s0 H0 E).A) (hg:Gl (J3 (F9 P w) P w K mg base N qual scope fa cd A outer s0 H0 E) x) (ha:QA (J3 (F9 P w) P w K mg base N qual scope fa cd A outer s0 H0 E) (e::es) t)
  (hdb:(x==("__debug__" : Str))=false:=by decide) (hs:L8 (e::es)=true:=by rfl):
  QS (J3 (F9 P w) P w K mg base N qual scope fa cd A outer s0 H0 E) (.Raise (some (.Call (.Name x np) (e::es) [] cpos)) none pos) (FX E C t):=by
 refine⟨fun ζ s σ H D I hq=>?_⟩;have c:=h.cl;obtain⟨nm,qn,N1,bs,sn,sub,ab,col,dd,k0,k1,k2,k3,k5,nm',qn',N',bs',sn',sub',ab',col',dd',k0',k1',k2',k3',k5',z⟩:=c.at I.ok.mod.kin;rw[arm_exec_Raise];simp only[evalOpt,Option.map];refine wpAny_bind (wpAny_standAt (FS (C:=C) (G:=G) (nm:=nm) (q:=qn) (N:=N1) (bs:=bs) (bm:=bJ) (sn:=sn) (sub:=sub) (ab:=ab) (col:=col) (dd:=dd) (k0:=k0) (k1:=k1) (k2:=k2) (k3:=k3) (k5:=k5) (newId:="ValueError.__new__") (!3) hr.hd ?_));refine wpAny_bind (A7 (Q:=λv s1=>∃e o vs,v=.ref e/\s1.heap.get? C=some (excClassObj nm qn C N1 bs (.ref G::bJ) true sn sub ab col dd k0 k1 k2 k3 k5 "ValueError.__new__")/\s1.heap.get? e=some o/\o.cls=.ref C/\o.data=.fields vs/\vs[1]?=some .none/\(J3 (F9 P w) P w K mg base N qual scope fa cd A outer s0 H0 E).xe (.ref e) s1) ?_ λv s1 q=>wpAny_bind (wpAny_standAt (wpAny_pure q)));refine wpAny_Call_Name_kw (eK I hg h.at_ ?_ hdb);refine callWith_K (h₀:=base) I.ok.mod.kin h.kp (A7 (ha.h cpos ζ s σ H _ I hq) λus s1 ⟨vs,H1,I1,r,hl,q⟩=>⟨I1.kIn,?_⟩) (N7 (L9 hs).1) (U8 (L9 hs).2);refine FW (X:=J3 (F9 P w) P w K mg base N qual scope fa cd A outer s0 H0 E) c I1 (λa s2 na za I2=>?_) (by show us.length<=_;rw[←r.length];exact le_trans hl (!3));obtain⟨⟨o,ws,ho,hc,hd,hv,h1⟩,_,_⟩:=(show ObjOk P w _ s2.heap a (ExO a C none true)from I2.hok a _ A6);have I3:=Inv.untrack I2 A6;have e3:E8 (upd H1 a (ExO a C none true)) a=H1:=by
  funext b
  by_cases w:b=a
  ·subst w
   rw[X0,na]
  ·rw[K2 w,A9 w]
 rw[e3]at I3;refine⟨a,o,ws,rfl,?_,ho,hc,hv,h1 rfl,?_⟩
 ·exact I3.bk _ _ z.hC
 ·exact vK I3 (.inl ⟨o,ws,ho,hc,hd,hv,h1 rfl,rfl⟩) na (le_trans I1.sz za) (λT e=>by cases e) q
end
end Rg
namespace Rg
open PySem PySem.W PySem.Spec PyProof.Rows L2 Builtin.Str
theorem gQ{a b:Str}(h:a.cps.toList=b.cps.toList):a=b:=by
 cases a;cases b
 congr
 exact Array.toList_inj.mp h
end Rg
namespace Rg
open PySem PySem.W PySem.Spec PyProof.Rows L2 Builtin.Str
section
variable{X:Cx}
theorem FY:QM X "str.startswith" (λx vs H Q=>∃(z y:Str)(i:Int),x=.str z/\vs=[.str y,.int i]/\Q (.bl (Txt.startswith3 z y i)) H):=⟨by
 intro ζ s σ H x vs v us Q I rx rv h;obtain⟨z,y,i,rfl,rfl,q⟩:=h;obtain⟨t,rfl⟩:=rx;cases rv with
 |cons r1 rv=>
  cases rv with
  |cons r2 rv=>
   cases rv;obtain⟨t1,rfl⟩:=r1;obtain⟨t2,rfl⟩:=r2;exact SC.startswith3 ⟨.bl _,H,I,rfl,q⟩⟩
theorem FZ:QC X (.type "str") (λxs H Q=>(∃i:Int,xs=[.int i]/\i.natAbs.log2<1920/\Q (.str (toString i)) H)∨∃z:Str,xs=[.str z]/\Q (.str z) H):=⟨by
 intro ζ s σ H xs us Q I r h;rcases h with⟨i,rfl,hi,q⟩|⟨z,rfl,q⟩
 ·obtain⟨u,rfl,t,rfl⟩:=M3 r
  exact P.str_of_int hi ⟨.str _,H,I.tok _,⟨_,rfl⟩,q⟩
 ·obtain⟨u,rfl,t,rfl⟩:=M3 r
  exact P.str_of_str ⟨.str _,H,I,⟨_,rfl⟩,q⟩⟩
end
theorem Ga(z y:Str)(i:Nat)(hi:i<=z.length):Txt.startswith3 z y (i:Nat)=y.cps.toList.isPrefixOf (z.cps.toList.drop i):=by
 have hz:=C2 z;have hy:=C2 y;unfold Txt.startswith3;have e:fromIndex z.length ((i:Nat):Int)=i:=by
  unfold fromIndex
  first|(simp;omega)|simp|omega
 rw[e,StrLaws.subAt_eq,Bool.eq_iff_iff,Bool.and_eq_true,decide_eq_true_eq,beq_iff_eq,List.isPrefixOf_iff_prefix,List.prefix_iff_eq_take,hy];constructor
 ·rintro ⟨h1,h2⟩
  exact h2.symm
 ·intro h
  refine⟨?_,h.symm⟩;have:=congrArg length h;rw[length_take,length_drop]at this;omega
end Rg
namespace Rg
open PySem L2
def J2(c:Nat):Bool:=decide (97<=c)&&decide (c<=122)
def E9(c:Nat):Bool:=J2 c||L3 c||c==45
def D7(z:Str):Bool:=decide (1<=z.length)&&decide (z.length<=8)&&z.cps.toList.all J2
abbrev sL(cs:List Nat):Str:=⟨cs.toArray⟩
theorem bK(cs:List Nat):(sL cs).cps.toList=cs:=rfl
theorem lV(z:Str):sL z.cps.toList=z:=by cases z;rfl
mutual
def Th.tx:Th->List Nat
 |.num i=>(nT i).cps.toList
 |.word x=>x.cps.toList
 |.row l=>91::(l.txR true++[93])
 |.dic l=>123::(l.txD true++[125])
def Ts.txR:Ts->Bool->List Nat
 |.nil,_=>[]
 |.cons _ t r,b=>(if b then[]else[44,32])++(t.tx++r.txR false)
def Ts.txD:Ts->Bool->List Nat
 |.nil,_=>[]
 |.cons k t r,b=>(if b then[]else[44,32])++(k.cps.toList++58::32::(t.tx++r.txD false))
end
mutual
def Th.Wf:Th->Prop
 |.num i=>i.natAbs<10^60
 |.word x=>D7 x=true
 |.row l=>l.WfR
 |.dic l=>l.WfD Str.empty
def Ts.WfR:Ts->Prop
 |.nil=>True
 |.cons k t r=>k=Str.empty/\t.Wf/\r.WfR
def Ts.WfD:Ts->Str->Prop
 |.nil,_=>True
 |.cons k t r,last=>D7 k=true/\B1 last k=true/\t.Wf/\r.WfD k
end
mutual
def Th.dp:Th->Nat
 |.num _=>1
 |.word _=>1
 |.row l=>l.dp+1
 |.dic l=>l.dp+1
def Ts.dp:Ts->Nat
 |.nil=>0
 |.cons _ t r=>max t.dp r.dp
end
def U0(s:List Nat):Option (Th×List Nat):=
 if D7 (sL (s.takeWhile E9))=true then some (.word (sL (s.takeWhile E9)),s.dropWhile E9)
 else if Q1 (sL (s.takeWhile E9))=true then some (.num ((PySem.intText? (sL (s.takeWhile E9))).getD 0),s.dropWhile E9)else none
def K5(a:Nat):List Nat->Option (List Nat)
 |c::r=>if c=a then some r else none
 |[]=>none
def N0(a b:Nat)(s:List Nat):Option (List Nat):=(K5 a s).bind (K5 b)
def P3(last:Str)(s:List Nat):Option (Str×List Nat):=
 if D7 (sL (s.takeWhile J2))=true/\B1 last (sL (s.takeWhile J2))=true then(N0 58 32 (s.dropWhile J2)).map λr=>(sL (s.takeWhile J2),r)else none
def M0(rd:List Nat->Option (Th×List Nat)):Nat->List Nat->Option (Ts×List Nat)
 |0,_=>none
 |n+1,s=>match N0 44 32 s with
  |some r=>(rd r).bind λp=>(M0 rd n p.2).map λq=>(.cons Str.empty p.1 q.1,q.2)
  |none=>(K5 93 s).map λr=>(.nil,r)
def K6(rd:List Nat->Option (Th×List Nat)):Nat->Str->List Nat->Option (Ts×List Nat)
 |0,_,_=>none
 |n+1,last,s=>match N0 44 32 s with
  |some r=>(P3 last r).bind λf=>(rd f.2).bind λp=>(K6 rd n f.1 p.2).map λq=>(.cons f.1 p.1 q.1,q.2)
  |none=>(K5 125 s).map λr=>(.nil,r)
def Q5(rd:List Nat->Option (Th×List Nat))(s:List Nat):Option (Th×List Nat):=match K5 93 s with
 |some r=>some (.row .nil,r)
 |none=>(rd s).bind λp=>(M0 rd (p.2.length+1) p.2).map λq=>(.row (.cons Str.empty p.1 q.1),q.2)
def O6(rd:List Nat->Option (Th×List Nat))(s:List Nat):Option (Th×List Nat):=match K5 125 s with
 |some r=>some (.dic .nil,r)
 |none=>(P3 Str.empty s).bind λf=>(rd f.2).bind λp=>(K6 rd (p.2.length+1) f.1 p.2).map λq=>(.dic (.cons f.1 p.1 q.1),q.2)
def B3:Nat->List Nat->Option (Th×List Nat)
 |0,_=>none
 |d+1,s=>match K5 91 s with
  |some r=>Q5 (B3 d) r
  |none=>match K5 123 s with
   |some r=>O6 (B3 d) r
   |none=>U0 s
theorem dF(a c:Nat)(r:List Nat):K5 a (c::r)=if c=a then some r else none:=rfl
theorem X2{a:Nat}{s r:List Nat}(h:K5 a s=some r):s=a::r:=by
 cases s with
 |nil=>cases h
 |cons c q=>
  rw[dF]at h;by_cases e:c=a
  ·rw[if_pos e]at h
   cases h;rw[e]
  ·rw[if_neg e]at h
   cases h
theorem X3(a:Nat)(r:List Nat):K5 a (a::r)=some r:=by rw[dF,if_pos rfl]
theorem X4{a c:Nat}(r:List Nat)(h:c≠a):K5 a (c::r)=none:=by rw[dF,if_neg h]
theorem gR{a b:Nat}{s r:List Nat}(h:N0 a b s=some r):s=a::b::r:=by
 unfold N0 at h;obtain⟨q,h1,h2⟩:=Option.bind_eq_some_iff.mp h;rw[X2 h1,X2 h2]
theorem lW(a b:Nat)(r:List Nat):N0 a b (a::b::r)=some r:=by unfold N0;rw[X3];exact X3 b r
theorem vM{a b c:Nat}(r:List Nat)(h:c≠a):N0 a b (c::r)=none:=by unfold N0;rw[X4 r h];rfl
def lX(d:Nat)(rd:List Nat->Option (Th×List Nat)):Prop:=∀s t r,rd s=some (t,r)->s=t.tx++r/\t.Wf/\t.dp<=d
theorem lY{last k:Str}{s r:List Nat}(h:P3 last s=some (k,r)):s=k.cps.toList++58::32::r/\D7 k=true/\B1 last k=true:=by
 unfold P3 at h;split at h
 ·rename_i e
  obtain⟨q,h1,h2⟩:=Option.map_eq_some_iff.mp h;cases h2;refine⟨?_,e.1,e.2⟩;rw[bK,←gR h1,List.takeWhile_append_dropWhile]
 ·cases h
theorem Gc{s r:List Nat}{t:Th}(h:U0 s=some (t,r)):s=t.tx++r/\t.Wf/\t.dp=1:=by
 unfold U0 at h;split at h
 ·rename_i e
  cases h;refine⟨?_,e,rfl⟩;show s=(sL (s.takeWhile E9)).cps.toList++_;rw[bK,List.takeWhile_append_dropWhile]
 ·split at h
  ·rename_i _ e
   cases h;obtain⟨n,hn,hz,hi⟩:=vI e;rw[hi];refine⟨?_,hn,rfl⟩;show s=(nT n).cps.toList++_;rw[←hz,bK,List.takeWhile_append_dropWhile]
  ·cases h
theorem vN{d:Nat}{rd:List Nat->Option (Th×List Nat)}(hs:lX d rd):∀(n:Nat)(s r:List Nat)(l:Ts),M0 rd n s=some (l,r)->s=l.txR false++93::r/\l.WfR/\l.dp<=d
 |0,s,r,l,h=>by cases h
 |n+1,s,r,l,h=>by
  unfold M0 at h;split at h
  ·rename_i q e
   obtain⟨p,h1,h2⟩:=Option.bind_eq_some_iff.mp h;obtain⟨q',h3,h4⟩:=Option.map_eq_some_iff.mp h2;cases h4;obtain⟨a1,a2,a3⟩:=hs _ _ _ h1;obtain⟨b1,b2,b3⟩:=vN hs n _ _ _ h3;refine⟨?_,⟨rfl,a2,b2⟩,by show max _ _<=d;omega⟩;rw[gR e,a1,b1];show _=([44,32]++(p.1.tx++q'.1.txR false))++93::q'.2;simp
  ·obtain⟨q,h1,h2⟩:=Option.map_eq_some_iff.mp h
   cases h2;exact⟨X2 h1,trivial,zero_le _⟩
theorem vO{d:Nat}{rd:List Nat->Option (Th×List Nat)}(hs:lX d rd):∀(n:Nat)(last:Str)(s r:List Nat)(l:Ts),K6 rd n last s=some (l,r)->s=l.txD false++125::r/\l.WfD last/\l.dp<=d
 |0,last,s,r,l,h=>by cases h
 |n+1,last,s,r,l,h=>by
  unfold K6 at h;split at h
  ·rename_i q e
   obtain⟨f,h0,h⟩:=Option.bind_eq_some_iff.mp h;obtain⟨p,h1,h2⟩:=Option.bind_eq_some_iff.mp h;obtain⟨q',h3,h4⟩:=Option.map_eq_some_iff.mp h2;cases h4;obtain⟨f1,f2,f3⟩:=lY h0;obtain⟨a1,a2,a3⟩:=hs _ _ _ h1;obtain⟨b1,b2,b3⟩:=vO hs n _ _ _ _ h3;refine⟨?_,⟨f2,f3,a2,b2⟩,by show max _ _<=d;omega⟩;rw[gR e,f1,a1,b1];show _=([44,32]++(f.1.cps.toList++58::32::(p.1.tx++q'.1.txD false)))++125::q'.2;simp
  ·obtain⟨q,h1,h2⟩:=Option.map_eq_some_iff.mp h
   cases h2;exact⟨X2 h1,trivial,zero_le _⟩
theorem lZ:∀d,lX d (B3 d)
 |0=>λs t r h=>by cases h
 |d+1=>λs t r h=>by
  have hs:=lZ d;unfold B3 at h;split at h
  ·rename_i q e
   rw[X2 e];unfold Q5 at h;split at h
   ·rename_i q2 e2
    cases h;rw[X2 e2];exact⟨rfl,trivial,by show 1<=d+1;omega⟩
   ·obtain⟨p,h1,h2⟩:=Option.bind_eq_some_iff.mp h
    obtain⟨q',h3,h4⟩:=Option.map_eq_some_iff.mp h2;cases h4;obtain⟨a1,a2,a3⟩:=hs _ _ _ h1;obtain⟨b1,b2,b3⟩:=vN hs _ _ _ _ h3;refine⟨?_,⟨rfl,a2,b2⟩,by show max _ _+1<=d+1;omega⟩;rw[a1,b1];show _=91::(([]++(p.1.tx++q'.1.txR false))++[93])++q'.2;simp
  ·split at h
   ·rename_i q e
    rw[X2 e];unfold O6 at h;split at h
    ·rename_i q2 e2
     cases h;rw[X2 e2];exact⟨rfl,trivial,by show 1<=d+1;omega⟩
    ·obtain⟨f,h0,h⟩:=Option.bind_eq_some_iff.mp h
     obtain⟨p,h1,h2⟩:=Option.bind_eq_some_iff.mp h;obtain⟨q',h3,h4⟩:=Option.map_eq_some_iff.mp h2;cases h4;obtain⟨f1,f2,f3⟩:=lY h0;obtain⟨a1,a2,a3⟩:=hs _ _ _ h1;obtain⟨b1,b2,b3⟩:=vO hs _ _ _ _ _ h3;refine⟨?_,⟨f2,f3,a2,b2⟩,by show max _ _+1<=d+1;omega⟩;rw[f1,a1,b1];show _=123::(([]++(f.1.cps.toList++58::32::(p.1.tx++q'.1.txD false)))++[125])++q'.2;simp
   ·obtain⟨a1,a2,a3⟩:=Gc h
    exact⟨a1,a2,!1⟩
def dH(r:List Nat):Prop:=∀c q,r=c::q->E9 c=false
theorem gS{p:Nat->Bool}:∀{u r:List Nat},(∀c∈u,p c=true)->(∀c q,r=c::q->p c=false)->(u++r).takeWhile p=u/\(u++r).dropWhile p=r
 |[],r,_,h=>by
  cases r with
  |nil=>exact⟨rfl,rfl⟩
  |cons c q=>
   have:=h c q rfl;exact⟨by rw[nil_append,List.takeWhile_cons,this];rfl,by rw[nil_append,List.dropWhile_cons,this];rfl⟩
 |c::u,r,hu,h=>by
  have ih:=gS (u:=u) (r:=r) (λd hd=>hu d (mem_cons_of_mem _ hd)) h;have hc:=hu c mem_cons_self;refine⟨?_,?_⟩
  ·rw[cons_append,List.takeWhile_cons,hc,if_pos rfl,ih.1]
  ·rw[cons_append,List.dropWhile_cons,hc,if_pos rfl,ih.2]
theorem X5{z:Str}(h:D7 z=true):1<=z.cps.toList.length/\∀c∈z.cps.toList,J2 c=true:=by
 unfold D7 at h;simp only[Bool.and_eq_true,decide_eq_true_eq,all_eq_true]at h;exact⟨by rw[←C2];exact h.1.1,h.2⟩
theorem gT{i:Int}(h:i.natAbs<10^60):1<=(nT i).cps.toList.length/\(∀c∈(nT i).cps.toList,E9 c=true)/\D7 (nT i)=false:=by
 have fg:∀m:Nat,∀c∈dg m,L3 c=true:=λm c hc=>all_eq_true.mp (gO.mpr (bI m)) c hc
 have at_:∀c,L3 c=true->E9 c=true:=λc h=>by unfold E9;rw[h];simp
 have nl:∀c,L3 c=true∨c=45->J2 c=false:=λc h=>by
  unfold J2;have:c<=57:=by
   rcases h with h|rfl
   ·unfold L3 at h
    simp only[Bool.and_eq_true,decide_eq_true_eq]at h;omega
   ·decide
  rw[decide_eq_false (show ¬97<=c by omega)];rfl
 have no:∀{z:Str}{c:Nat}{q:List Nat},z.cps.toList=c::q->L3 c=true∨c=45->D7 z=false:=λ{z c q} e hc=>by
  refine Bool.eq_false_iff.mpr λhn=>?_
  have:=(X5 hn).2 c (by rw[e];exact mem_cons_self);rw[nl c hc]at this;cases this
 rcases Int.eq_nat_or_neg i with⟨m,rfl|rfl⟩
 ·have hm:m<10^(59+1):=by simpa using h
  have hl:=(dD 59 m hm).1;rw[gL];refine⟨hl,λc hc=>at_ c (fg m c hc),?_⟩;cases e:dg m with
  |nil=>rw[e]at hl;cases hl
  |cons c q=>exact no (by rw[gL,e]) (.inl (fg m c (by rw[e];exact mem_cons_self)))
 ·cases m with
  |zero=>
   have e0:(nT (-((0:Nat):Int))).cps.toList=dg 0:=gL 0;rw[e0];have hl:=(dD 59 0 (!3)).1;refine⟨hl,λc hc=>at_ c (fg 0 c hc),?_⟩;cases e:dg 0 with
   |nil=>rw[e]at hl;cases hl
   |cons c q=>exact no (by rw[e0,e]) (.inl (fg 0 c (by rw[e];exact mem_cons_self)))
  |succ m=>
   rw[lP];refine⟨by rw[length_cons];omega,λc hc=>?_,no (lP m) (.inr rfl)⟩;rcases mem_cons.mp hc with rfl|hc
   ·decide
   ·exact at_ c (fg _ c hc)
theorem dI{c:Nat}(h:J2 c=true):E9 c=true:=by unfold E9;rw[h];rfl
theorem dJ{t:Th}(h:t.Wf):∃c q,t.tx=c::q/\(c=91∨c=123∨E9 c=true):=by
 cases t with
 |row l=>exact⟨91,_,rfl,.inl rfl⟩
 |dic l=>exact⟨123,_,rfl,.inr (.inl rfl)⟩
 |num i=>
  obtain⟨h1,h2,_⟩:=gT h;show ∃c q,(nT i).cps.toList=c::q/\_
  cases e:(nT i).cps.toList with
  |nil=>rw[e]at h1;cases h1
  |cons c q=>exact⟨c,q,rfl,.inr (.inr (h2 c (by rw[e];exact mem_cons_self)))⟩
 |word x=>
  obtain⟨h1,h2⟩:=X5 h;show ∃c q,x.cps.toList=c::q/\_
  cases e:x.cps.toList with
  |nil=>rw[e]at h1;cases h1
  |cons c q=>exact⟨c,q,rfl,.inr (.inr (dI (h2 c (by rw[e];exact mem_cons_self))))⟩
theorem Ge{t:Th}(h:t.Wf){a:Nat}(ha:a=93∨a=125)(r:List Nat):K5 a (t.tx++r)=none:=by
 obtain⟨c,q,e,hc⟩:=dJ h;rw[e];refine X4 _ λe'=>?_
 subst e';rcases ha with rfl|rfl<;>rcases hc with hc|hc|hc<;>first|(cases hc;done)|(revert hc;decide)
theorem gU{c:Nat}{q:List Nat}(h:E9 c=false):dH (c::q):=λd q' e=>by cases e;exact h
theorem vP{last k:Str}{r:List Nat}(h1:D7 k=true)(h2:B1 last k=true):P3 last (k.cps.toList++58::32::r)=some (k,r):=by
 obtain⟨e1,e2⟩:=gS (p:=J2) (u:=k.cps.toList) (r:=58::32::r) (X5 h1).2 λc q e=>by cases e;decide
 unfold P3;rw[e1,e2,lV,if_pos ⟨h1,h2⟩,lW];rfl
theorem vQ{t:Th}(h:t.Wf)(ha:(∃i,t=.num i)∨∃x,t=.word x){r:List Nat}(hr:dH r):U0 (t.tx++r)=some (t,r):=by
 rcases ha with⟨i,rfl⟩|⟨x,rfl⟩
 ·have h:i.natAbs<10^60:=h
  obtain⟨h1,h2,h3⟩:=gT h;obtain⟨e1,e2⟩:=gS (p:=E9) (u:=(nT i).cps.toList) h2 hr;unfold U0;show(if D7 (sL (((nT i).cps.toList++r).takeWhile E9))=true then _ else _)=_;rw[show(Th.num i).tx=(nT i).cps.toList from rfl,e1,e2,lV,h3,FI h];rw[if_neg (!2),if_pos rfl,(gP h).1];rfl
 ·have h:D7 x=true:=h
  obtain⟨e1,e2⟩:=gS (p:=E9) (u:=x.cps.toList) (λc hc=>dI ((X5 h).2 c hc)) hr;unfold U0;rw[show(Th.word x).tx=x.cps.toList from rfl,e1,e2,lV,if_pos h]
def mB(d:Nat)(rd:List Nat->Option (Th×List Nat)):Prop:=∀t r,t.Wf->t.dp<=d->dH r->rd (t.tx++r)=some (t,r)
theorem vR{a:Nat}(ha:E9 a=false)(r:List Nat):∀l:Ts,dH (l.txR false++a::r)
 |.nil=>gU ha
 |.cons k t l=>gU (c:=44) (!3)
theorem vS{a:Nat}(ha:E9 a=false)(r:List Nat):∀l:Ts,dH (l.txD false++a::r)
 |.nil=>gU ha
 |.cons k t l=>gU (c:=44) (!3)
theorem vT:∀l:Ts,l.len<=(l.txR false).length
 |.nil=>le_refl _
 |.cons k t l=>by
  have:=vT l;show l.len+1<=([44,32]++(t.tx++l.txR false)).length;rw[length_append,length_append];show l.len+1<=2+_;omega
theorem vU:∀l:Ts,l.len<=(l.txD false).length
 |.nil=>le_refl _
 |.cons k t l=>by
  have:=vU l;show l.len+1<=([44,32]++(k.cps.toList++58::32::(t.tx++l.txD false))).length;simp only[length_append,length_cons,List.length_nil];omega
theorem vV{d:Nat}{rd:List Nat->Option (Th×List Nat)}(hc:mB d rd):∀(l:Ts)(n:Nat)(r:List Nat),l.WfR->l.dp<=d->l.len<n->M0 rd n (l.txR false++93::r)=some (l,r)
 |.nil,n+1,r,_,_,_=>by
  unfold M0;rw[show Ts.nil.txR false++93::r=93::r from rfl,vM r (!3)];show(K5 93 (93::r)).map _=_;rw[X3];rfl
 |.cons k t l,n+1,r,h,hd,hn=>by
  obtain⟨rfl,h1,h2⟩:=h;have hd:max t.dp l.dp<=d:=hd;have hn:l.len+1<n+1:=hn;have e:(Ts.cons Str.empty t l).txR false++93::r=44::32::(t.tx++(l.txR false++93::r)):=by
   show([44,32]++(t.tx++l.txR false))++93::r=_;simp
  rw[e];unfold M0;rw[lW];show(rd (t.tx++(l.txR false++93::r))).bind _=_;rw[hc t _ h1 (!1) (vR (!3) r l)];show(M0 rd n (l.txR false++93::r)).map _=_;rw[vV hc l n r h2 (!1) (!1)];rfl
theorem vW{d:Nat}{rd:List Nat->Option (Th×List Nat)}(hc:mB d rd):∀(l:Ts)(n:Nat)(last:Str)(r:List Nat),l.WfD last->l.dp<=d->l.len<n->K6 rd n last (l.txD false++125::r)=some (l,r)
 |.nil,n+1,last,r,_,_,_=>by
  unfold K6;rw[show Ts.nil.txD false++125::r=125::r from rfl,vM r (!3)];show(K5 125 (125::r)).map _=_;rw[X3];rfl
 |.cons k t l,n+1,last,r,h,hd,hn=>by
  obtain⟨g1,g2,h1,h2⟩:=h;have hd:max t.dp l.dp<=d:=hd;have hn:l.len+1<n+1:=hn;have e:(Ts.cons k t l).txD false++125::r=44::32::(k.cps.toList++58::32::(t.tx++(l.txD false++125::r))):=by
   show([44,32]++(k.cps.toList++58::32::(t.tx++l.txD false)))++125::r=_;simp
  rw[e];unfold K6;rw[lW];show(P3 last (k.cps.toList++58::32::(t.tx++(l.txD false++125::r)))).bind _=_;rw[vP g1 g2];show(rd (t.tx++(l.txD false++125::r))).bind _=_;rw[hc t _ h1 (!1) (vS (!3) r l)];show(K6 rd n k (l.txD false++125::r)).map _=_;rw[vW hc l n k r h2 (!1) (!1)];rfl
theorem vX:∀d,mB d (B3 d)
 |0=>λt r h hd _=>by cases t<;>(have:_<=0:=hd;unfold Th.dp at this;omega)
 |d+1=>λt r h hd hr=>by
  have hc:=vX d;cases t with
  |num i=>
   obtain⟨c,q,e,hcc⟩:=dJ h;have ha:=vQ h (.inl ⟨i,rfl⟩) hr;have h1:=(gT h).2.1 c (by rw[show(nT i).cps.toList=(Th.num i).tx from rfl,e];exact mem_cons_self);rw[e]at ha ⊢;unfold B3;rw[cons_append,X4 _ (λz=>by rw[z]at h1;revert h1;decide),X4 _ (λz=>by rw[z]at h1;revert h1;decide)];exact ha
  |word x=>
   obtain⟨c,q,e,hcc⟩:=dJ h;have ha:=vQ h (.inr ⟨x,rfl⟩) hr;have h1:=dI ((X5 h).2 c (by rw[show x.cps.toList=(Th.word x).tx from rfl,e];exact mem_cons_self));rw[e]at ha ⊢;unfold B3;rw[cons_append,X4 _ (λz=>by rw[z]at h1;revert h1;decide),X4 _ (λz=>by rw[z]at h1;revert h1;decide)];exact ha
  |row l=>
   unfold B3;rw[show(Th.row l).tx++r=91::(l.txR true++93::r) by show 91::(l.txR true++[93])++r=_;simp,X3];show Q5 (B3 d) (l.txR true++93::r)=_;unfold Q5;cases l with
   |nil=>
    rw[show Ts.nil.txR true++93::r=93::r from rfl,X3]
   |cons k t l=>
    obtain⟨rfl,h1,h2⟩:=(h:k=Str.empty/\t.Wf/\l.WfR);have hd:max t.dp l.dp+1<=d+1:=hd;rw[show(Ts.cons Str.empty t l).txR true++93::r=t.tx++(l.txR false++93::r) by show([]++(t.tx++l.txR false))++93::r=_;simp];rw[Ge h1 (.inl rfl)];show(B3 d (t.tx++(l.txR false++93::r))).bind _=_;rw[hc t _ h1 (!1) (vR (!3) r l)];show(M0 (B3 d) ((l.txR false++93::r).length+1) (l.txR false++93::r)).map _=_;rw[vV hc l _ r h2 (!1) (by have:=vT l;rw[length_append];omega)];rfl
  |dic l=>
   unfold B3;rw[show(Th.dic l).tx++r=123::(l.txD true++125::r) by show 123::(l.txD true++[125])++r=_;simp,X4 _ (!3),X3];show O6 (B3 d) (l.txD true++125::r)=_;unfold O6;cases l with
   |nil=>
    rw[show Ts.nil.txD true++125::r=125::r from rfl,X3]
   |cons k t l=>
    obtain⟨g1,g2,h1,h2⟩:=(h:D7 k=true/\B1 Str.empty k=true/\t.Wf/\l.WfD k);have hd:max t.dp l.dp+1<=d+1:=hd;rw[show(Ts.cons k t l).txD true++125::r=k.cps.toList++58::32::(t.tx++(l.txD false++125::r)) by show([]++(k.cps.toList++58::32::(t.tx++l.txD false)))++125::r=_;simp];have hp:K5 125 (k.cps.toList++58::32::(t.tx++(l.txD false++125::r)))=none:=by
     obtain⟨n1,n2⟩:=X5 g1;cases e:k.cps.toList with
     |nil=>rw[e]at n1;cases n1
     |cons c q=>exact X4 _ (λz=>by have:=n2 c (by rw[e];exact mem_cons_self);rw[z]at this;revert this;decide)
    rw[hp];show(P3 Str.empty (k.cps.toList++58::32::(t.tx++(l.txD false++125::r)))).bind _=_;rw[vP g1 g2];show(B3 d (t.tx++(l.txD false++125::r))).bind _=_;rw[hc t _ h1 (!1) (vS (!3) r l)];show(K6 (B3 d) ((l.txD false++125::r).length+1) k (l.txD false++125::r)).map _=_;rw[vW hc l _ k r h2 (!1) (by have:=vU l;rw[length_append];omega)];rfl
theorem Gf(d:Nat)(s:List Nat)(t:Th):B3 d s=some (t,[])↔s=t.tx/\t.Wf/\t.dp<=d:=by
 constructor
 ·intro h
  obtain⟨h1,h2,h3⟩:=lZ d _ _ _ h;exact⟨by rw[h1,append_nil],h2,h3⟩
 ·rintro ⟨rfl,h2,h3⟩
  have:=vX d t [] h2 h3 (λc q e=>by cases e);rw[append_nil]at this;exact this
end Rg
namespace Rg
open PySem PySem.W PySem.Spec PyProof.Rows L2 Builtin.Str
def Q6(a b:Nat):List Str->List Nat
 |[]=>[]
 |[w]=>w.cps.toList
 |w::v::r=>w.cps.toList++a::b::Q6 a b (v::r)
theorem vY(a b:Nat):∀ws:List Str,(Str.join ⟨#[a,b]⟩ ws).cps.toList=Q6 a b ws
 |[]=>rfl
 |[w]=>rfl
 |w::v::r=>by
  show(w++(⟨#[a,b]⟩:Str)++Str.join ⟨#[a,b]⟩ (v::r)).cps.toList=_;rw[PyProof.Rows.cps_toList_append,PyProof.Rows.cps_toList_append,vY a b (v::r)];show _++[a,b]++_=_++a::b::_;rw[append_assoc];rfl
end Rg
namespace Rg
open PySem L2
def cls(b:Bool):Nat:=if b then 125 else 93
def bE(f:Bool):List Nat:=if f then[]else[44,32]
def vZ(k:Nat):List Nat:=35::(dg k++[59])
inductive Tk where
 |sg (c:Nat)
 |mk (k:Nat)
def Tk.tx:Tk->List Nat
 |.sg c=>[c]
 |.mk k=>vZ k
def Tk.Ok(m:Nat):Tk->Prop
 |.sg c=>c≠35/\c≠59
 |.mk k=>k<m
def Tk.ex(k:Nat)(N:List Nat):Tk->List Nat
 |.sg c=>[c]
 |.mk j=>if j=k then N else vZ j
def pl(c:Nat):Bool:=!(c==91||c==93||c==123||c==125||c==44||c==58||c==32)
end Rg
namespace Rg
open PySem PySem.SeqAt L2
section
variable{P:Program}{w:World}{H:Hp}{s:Shared}{A:Around}(hok:HOk P w H s.heap)
include hok
end
end Rg
namespace Rg
open PySem PySem.SeqAt
open AutoSeq1 (wpAny_loadPart')
open MeetsSeq MeetsSeq2 MeetsSeq3 SeqRoads2
def wA(A:Around)(s:Shared)(u v:Value)(b:Bool):Prop:=
 ∀(prog:Program)(w:World)(E:Value->Shared->Prop)(Q:Value->Shared->Prop),Q (.bool b) s->wpAny (model prog w) A (richCompare .LtE u v) Q E s
def dL(A:Around)(s:Shared):List Value->List Value->Bool->Prop
 |[],_,r=>r=true
 |_::_,[],r=>r=false
 |x::xs,y::ys,r=>(EqAt A s x y true/\dL A s xs ys r)∨(EqAt A s x y false/\wA A s x y r)
section
variable{l b:Addr}{items items2:Array Value}{n n2:Nat}{dd dd2:Option Addr}{sl sl2:Array (Option Value)}{r:Bool}
theorem Gg:Meets (Builtin.«tuple.__le__» ⟨[.ref l,.ref b],[]⟩)
   (λA R s=>s.heap.get? l=some {cls:=.type "tuple",dict:=dd,data:=.seq items n,slots:=sl}/\s.heap.get? b=some {cls:=.type "tuple",dict:=dd2,data:=.seq items2 n2,slots:=sl2}/\
    dL A.in1 s items.toList items2.toList r/\R (.ok (.ret (.bool r))) s):=
 .of_wp λprog w A R s h=>by
  obtain⟨hp,g,d,tk,os⟩:=s;obtain⟨hl,hb,hS,h⟩:=h;have f2:=AutoSeq1.sub_tuple_tuple
  wp_walk using wpAny_loadPart' hl,wpAny_loadPart' hb,wpAny_forIn_list _ (λC9 b s'=>b.1=none/\s'=⟨hp,g,d,tk,os⟩/\∃(vs ws:List Value),C9=vs.zip ws/\
   dL A.in1 ⟨hp,g,d,tk,os⟩ vs ws r/\vs.length+items2.size=ws.length+items.size) _
  case turn=>
   rintro ⟨y,x⟩ C9 b s' ⟨hb',rfl,vs,ws,hz,hS,hlen⟩;cases vs with
   |nil=>rw[zip_nil_left]at hz;cases hz
   |cons a vs=>
    cases ws with
    |nil=>rw[List.zip_nil_right]at hz;cases hz
    |cons c ws=>
     rw[zip_cons_cons]at hz;injection hz with hyx hrest
     injection hyx with hy hx
     subst hy hx;simp only[length_cons]at hlen;rcases(show(EqAt A.in1 ⟨hp,g,d,tk,os⟩ y x true/\dL A.in1 ⟨hp,g,d,tk,os⟩ vs ws r)∨(EqAt A.in1 ⟨hp,g,d,tk,os⟩ y x false/\wA A.in1 ⟨hp,g,d,tk,os⟩ y x r)from hS)with⟨he,hS⟩|⟨he,hS⟩
     ·refine wpAny_bind (he prog w _ _ ?_)
      wp_walk
      exact⟨rfl,rfl,_,_,hrest,hS,!1⟩
     ·refine wpAny_bind (he prog w _ _ ?_)
      have hri:=hS prog w
      wp_walk using hri
      exact⟨_,rfl,h⟩
  case fin=>
   rintro ⟨b1,b2⟩ s' ⟨hb',rfl,vs,ws,hz,hS,hlen⟩;simp only at hb';subst hb';have hv:r=decide (items.size<=items2.size):=by
    cases vs with
    |nil=>
     simp only[List.length_nil]at hlen;exact(show r=true from hS).trans (decide_eq_true (!1)).symm
    |cons a vs=>
     cases ws with
     |nil=>
      simp only[List.length_nil,length_cons]at hlen;exact(show r=false from hS).trans (decide_eq_false (!1)).symm
     |cons c ws=>
      rw[zip_cons_cons]at hz;cases hz
   rw[hv]at h
   wp_walk
   exact⟨_,rfl,by simpa [Builtin.Tuple.tupleCompareSizes]using h⟩
  case h=>
   exact⟨rfl,rfl,items.toList,items2.toList,rfl,hS,by rw[Array.length_toList,Array.length_toList];omega⟩
end
section
variable{A:Around}{s:Shared}
theorem Gh{x y:Str}{a b c d:Tok}:dL A s [Value.int (x.length:Nat) a,.str x b] [.int (y.length:Nat) c,.str y d] (!B1 y x):=by
 have e:(!B1 y x)=(M4 x y != .gt):=by
  unfold B1;rw[kI];cases M4 x y<;>rfl
 rw[e];unfold M4;have h1:=(ElC.int (A:=A) (s:=s) (x.length:Nat) (y.length:Nat) a c).1;cases ei:K0 (x.length:Int) y.length with
 |eq=>
  rw[ei]at h1;refine .inl ⟨h1,?_⟩;have h2:=(ElC.str (A:=A) (s:=s) x y b d).1;cases es:K1 x y with
  |eq=>rw[es]at h2;exact .inl ⟨h2,rfl⟩
  |lt=>
   rw[es]at h2;refine .inr ⟨h2,λprog w E Q q=>?_⟩;refine(PySem.P.le_str ?_:wpAny (model prog w) A (compareOp .LtE (.str x b) (.str y d)) Q E s);have n:¬y.cps.toList<x.cps.toList:=λh=>by
    have:=fX x y;rw[es]at this;unfold K1 at this;split at this
    ·cases this
    ·cases this
   rw[decide_eq_false n];exact q
  |gt=>
   rw[es]at h2;refine .inr ⟨h2,λprog w E Q q=>?_⟩;refine(PySem.P.le_str ?_:wpAny (model prog w) A (compareOp .LtE (.str x b) (.str y d)) Q E s);have n:y.cps.toList<x.cps.toList:=by
    have:=fX x y;rw[es]at this;unfold K1 at this;split at this
    ·cases this
    ·split at this
     ·assumption
     ·cases this
   rw[decide_eq_true n];exact q
 |lt=>
  rw[ei]at h1;refine .inr ⟨h1,λprog w E Q q=>?_⟩;refine(PyProof.Rows.le_int ?_:wpAny (model prog w) A (compareOp .LtE (.int _ a) (.int _ c)) Q E s);have n:(x.length:Int)<=y.length:=by
   unfold K0 at ei;split at ei
   ·cases ei
   ·split at ei
    ·omega
    ·cases ei
  rw[decide_eq_true n];exact q
 |gt=>
  rw[ei]at h1;refine .inr ⟨h1,λprog w E Q q=>?_⟩;refine(PyProof.Rows.le_int ?_:wpAny (model prog w) A (compareOp .LtE (.int _ a) (.int _ c)) Q E s);have n:¬(x.length:Int)<=y.length:=by
   unfold K0 at ei;split at ei
   ·cases ei
   ·split at ei
    ·cases ei
    ·omega
  rw[decide_eq_false n];exact q
end
open L2 in
theorem Gi{X:Cx}{k:Nat}(hr:Room k X.A):QOp X (compareOp .LtE) (λx y H Q=>∃a b f g,x=.ref a/\y=.ref b/\H a=some (.tup (L7 f))/\H b=some (.tup (L7 g))/\Q (.bl (!B1 g f)) H):=⟨by
 intro ζ s σ H x y v u Q I rx ry h;obtain⟨a,b,f,g,rfl,rfl,ha,hb,q⟩:=h;have hu:X.A.units+200<cLine:=by have z:=hr.un;omega
 cases rx;cases ry;obtain⟨_,us,ru,t1⟩:=I.hok a _ ha;obtain⟨_,ws,rw',t2⟩:=I.hok b _ hb;obtain⟨u1,u2,rfl,⟨k1,rfl⟩,⟨k2,rfl⟩⟩:=Vals.two ru;obtain⟨w1,w2,rfl,⟨k3,rfl⟩,⟨k4,rfl⟩⟩:=Vals.two rw';obtain⟨⟨cls,dd,data,sl⟩,ho,hc,n,hd⟩:=id t1;obtain⟨⟨cls2,dd2,data2,sl2⟩,ho2,hc2,n2,hd2⟩:=id t2;simp only at hc hd hc2 hd2;subst hc hd hc2 hd2;exact(richCompare_meets_room (op:=.LtE) ⟨_,ho,rfl⟩ ⟨_,ho2,rfl⟩ PySem.F.slot_tuple_le PySem.F.entry_tuple_le (PySem.F.args_tuple_le_2 _ _) (Gg (items:=#[_,_]) (items2:=#[_,_]))
  ⟨ho,ho2,Gh,(λx=>nomatch x),⟨.bl _,H,I,rfl,q⟩⟩ (!1))⟩
end Rg
namespace Rg
open PySem L2
theorem Ts.app_nil:∀l:Ts,l.app .nil=l
 |.nil=>rfl
 |.cons k t r=>congrArg (Ts.cons k t) (Ts.app_nil r)
theorem Ts.snoc_app(k:Str)(t:Th)(r:Ts):∀l:Ts,(l.snoc k t).app r=l.app (.cons k t r)
 |.nil=>rfl
 |.cons j u q=>congrArg (Ts.cons j u) (Ts.snoc_app k t r q)
end Rg
namespace Rg
open PySem PySem.W PyProof.Rows L2
theorem wB{lt:Nat->Nat->Bool}{p:Array Nat}:∀(f m:Nat),(∀j,m<=j->j<m+f->lt (p.getD j 0) (p.getD (j-1) 0)=false)->J9 lt (kas_asc p f m)=m+f
 |0,m,_=>rfl
 |f+1,m,h=>by
  show J9 lt (if lt (p.getD m 0) (p.getD (m-1) 0)=true then _ else kas_asc p f (m+1))=_;rw[h m (le_refl _) (!1),if_neg Bool.false_ne_true,wB f (m+1) λj h1 h2=>h j (!1) (!1)];omega
theorem X6{α β:Type}{lt:Nat->Nat->Bool}{f:α->KasT β}:∀{t:KasT α},J9 lt (t.bind f)=J9 lt (f (J9 lt t))
 |.ret a=>rfl
 |.ask i j g=>X6 (t:=g (lt i j))
theorem wC{xs:List Str}(h:∀i,i+1<xs.length->B1 (xs.getD (i+1) Str.empty) (xs.getD i Str.empty)=false):B8 xs=xs:=by
 have e:Z0 xs=List.range xs.length:=by
  unfold Z0;split
  ·rfl
  ·rename_i hn
   have hg:∀j,j<xs.length->(toArray (List.range xs.length)).getD j 0=j:=λj hj=>by simp[Array.getD,hj]
   have hc:J9 (λi j=>B1 (xs.getD i Str.empty) (xs.getD j Str.empty)) (kas_count xs.length (toArray (List.range xs.length)))=(xs.length,toArray (List.range xs.length)):=by
    unfold kas_count;rw[X6,wB _ _ λj h1 h2=>?_]
    ·rw[show 1+(xs.length-1)=xs.length by omega,if_pos (!2)]
     rfl
    ·rw[hg j (!1),hg (j-1) (!1)]
     have:=h (j-1) (!1);rw[show j-1+1=j by omega]at this;exact this
   unfold kas_sort;rw[X6,hc];show(J9 _ (if xs.length<xs.length then _ else KasT.ret (toArray (List.range xs.length)))).toList=_;rw[if_neg (lt_irrefl _)];rfl
 unfold B8;rw[e,tR]
theorem mD(a:Str):B1 a a=false:=by unfold B1;rw[tT];rfl
theorem wD{a b:Str}(h:B1 a b=true):B1 b a=false:=by
 unfold B1 at h ⊢;rw[kI];cases e:M4 a b<;>rw[e]at h<;>first|(cases h;done)|rfl
theorem wE{x y:Str}:B1 x y=true↔x.length<y.length∨(x.length=y.length/\x.cps.toList<y.cps.toList):=by
 unfold B1 M4 K0 K1;by_cases e1:(x.length:Int)=y.length
 ·rw[if_pos e1]
  by_cases e2:x=y
  ·rw[if_pos e2,e2]
   constructor
   ·intro h;cases h
   ·rintro (h|⟨_,h⟩)
    ·omega
    ·exact absurd h (List.lt_irrefl _)
  ·rw[if_neg e2]
   by_cases e3:x.cps.toList<y.cps.toList
   ·rw[if_pos e3]
    exact⟨λ_=>.inr ⟨!1,e3⟩,λ_=>rfl⟩
   ·rw[if_neg e3]
    constructor
    ·intro h;cases h
    ·rintro (h|⟨_,h⟩)
     ·omega
     ·exact absurd h e3
 ·rw[if_neg e1]
  by_cases e3:(x.length:Int)<y.length
  ·rw[if_pos e3]
   exact⟨λ_=>.inl (!1),λ_=>rfl⟩
  ·rw[if_neg e3]
   constructor
   ·intro h;cases h
   ·rintro (h|⟨h,_⟩)<;>omega
theorem gW{a b c:Str}(h1:B1 a b=true)(h2:B1 b c=true):B1 a c=true:=by
 rw[wE]at h1 h2 ⊢;rcases h1 with h1|⟨h1,g1⟩<;>rcases h2 with h2|⟨h2,g2⟩
 ·exact .inl (!1)
 ·exact .inl (!1)
 ·exact .inl (!1)
 ·exact .inr ⟨!1,List.lt_trans g1 g2⟩
theorem mE:∀{l:Ts}{last:Str},l.WfD last->(∀k∈l.keys,B1 last k=true/\D7 k=true)/\l.keys.Nodup/\∀i,i+1<l.keys.length->B1 (l.keys.getD (i+1) Str.empty) (l.keys.getD i Str.empty)=false
 |.nil,_,_=>⟨λk hk=>(by cases hk),nodup_nil,λi h=>(by cases h)⟩
 |.cons k t r,last,h=>by
  obtain⟨h1,h2,_,h3⟩:=h;obtain⟨g1,g2,g3⟩:=mE h3;refine⟨λj hj=>?_,nodup_cons.mpr ⟨λhm=>?_,g2⟩,λi hi=>?_⟩
  ·rcases mem_cons.mp (show j∈k::r.keys from hj)with rfl|hj
   ·exact⟨h2,h1⟩
   ·exact⟨gW h2 (g1 j hj).1,(g1 j hj).2⟩
  ·have:=(g1 k hm).1
   rw[mD]at this;cases this
  ·cases i with
   |zero=>
    show B1 ((k::r.keys).getD 1 Str.empty) k=false;have hl:0<r.keys.length:=by have:0+1<(k::r.keys).length:=hi;rw[length_cons]at this;omega
    cases e:r.keys with
    |nil=>rw[e]at hl;cases hl
    |cons j q=>exact wD (g1 j (by rw[e];exact mem_cons_self)).1
   |succ i=>exact g3 i (by have:i+1+1<(k::r.keys).length:=hi;rw[length_cons]at this;omega)
theorem X7:∀l:Ts,l.len<=l.size
 |.nil=>le_refl _
 |.cons k t r=>by
  have:=X7 r;have:=tV t;show r.len+1<=t.size+r.size;omega
end Rg
namespace Rg
open PySem PySem.W PySem.Spec PyProof.Rows L2
section
variable{X:Cx}{tg elt iter:Expr}{x:Str}{px pos:Pos}{scope:Scope}{fr:List (Str×Nat)}{wi:TI}{te:TE}
theorem Gj(hi:PI X tg iter wi):PI X tg iter (fun σ H R=>∃R0:It->Hp->Prop,wi σ H R0/\∀J H1,R0 J H1->R J H1):=fun ζ s σ H R I h=>by
 obtain⟨R0,h1,h2⟩:=h;refine A7 (hi ζ s σ H R0 I h1) λv s1 h3=>A7 h3 λu s2 h4=>?_
 obtain⟨it,fp,tn,J,H2,e,I2,T,st2,f2,w⟩:=h4;exact⟨it,fp,tn,J,H2,e,I2,T,st2,f2,h2 _ _ w⟩
theorem wF(hc:X.calm=true)(hi:PI X (.Name x px) iter wi)(S:LcOk X x fr scope)(he:∀fp C s H,PE (Di X x fr scope fp C s H) elt te)
  (hs:∀v,foldedSetIterable iter X.env v=pure v:=by intro _;rfl):PE X (.ListComp elt [⟨.Name x px,iter,[],0⟩] scope pos) (Dj fr wi te):=fun ζ s σ H Q I h=>by
 have S':LcOkG X [x] fr scope:=⟨S.nocell,S.kind,S.nm,λy hy=>by rw[mem_singleton.mp hy];exact S.hx,S.nd,S.free,S.fr⟩;refine uE (tt:=aT) hc (.inl rfl) (Gj hi) S' (λ_ _ _ _=>tP) he hs ζ s σ H Q I ⟨_,h,λJ H1 h1=>?_⟩;obtain⟨W,h0,hst⟩:=h1;refine⟨W,h0,λi m ys H w=>(hst i m ys H w).imp (λz=>z) λz=>?_⟩;obtain⟨g,l,N,hN,y⟩:=z;exact⟨g,l,N,λ_=>False,hN,λ_ f=>f.elim,λv H' hy=>⟨[v],rfl,rfl,by unfold aT;dsimp only;rw[if_pos rfl];exact y v H' hy⟩⟩
end
end Rg
namespace Rg
open PySem PySem.W PyProof.Rows
def mH:Bool->Keyed->Array Keyed->Nat->Nat->Nat->StateT SortSt Sem (Option Nat):=sortPriv% PySem.Builtin.gallop
def wG:Array Keyed->Array Keyed->StateT SortSt Sem (Array Keyed):=sortPriv% PySem.Builtin.mergeLo
def wH:Array Keyed->Array Keyed->StateT SortSt Sem (Array Keyed):=sortPriv% PySem.Builtin.mergeHi
local macro_rules|`(tactic| walk_at"un_gallop")=>do
 let i:=Lean.mkIdent (Lean.mkPrivateNameCore `PySem.Builtin.List.W1All `PySem.Builtin.gallop)
 `(tactic| unfold $i:ident)
structure Lts(M:Model)(A:Around)(E:Value->Shared->Prop)(s:Shared)(κ:SortKind)(L:Keyed->Keyed->Bool)(D:Keyed->Prop):Prop where
 lt:∀{x y:Keyed}{st:SortSt}{Q:Option Bool->SortSt->Prop},D x->D y->kindOf st=κ->Q (some (L x y)) st->wpS M A E s (lt' x y) Q st
 asy:∀{x y:Keyed},D x->D y->L x y=true->L y x=false
 tr:∀{x y z:Keyed},D x->D y->D z->L y x=false->L z y=false->L z x=false
section
variable{M:Model}{A:Around}{E:Value->Shared->Prop}{s:Shared}{κ:SortKind}{L:Keyed->Keyed->Bool}{D:Keyed->Prop}
def D8(L:Keyed->Keyed->Bool)(left:Bool)(key x:Keyed):Bool:=if left=true then L x key else !L key x
theorem E4{a:Array Keyed}{i:Nat}{x:Keyed}{st:SortSt}{Q:Keyed->SortSt->Prop}(h:a[i]?=some x)(q:Q x st):wpS M A E s (elem' a i) Q st:=by
 rw[elem'_eq,h];exact wpS_pure q
theorem dM(T:Lts M A E s κ L D){left:Bool}{key x:Keyed}{a:Array Keyed}{i:Nat}{st:SortSt}{R:Option Bool->SortSt->Prop}(h:a[i]?=some x)(dx:D x)(dk:D key)(hk:kindOf st=κ)(q:R (some (D8 L left key x)) st):
  wpS M A E s (do let x ←elem' a i;if left=true then lt' x key else do let r ←lt' key x;pure (Option.map (λx=>!x) r)) R st:=by
 refine wpS_bind (E4 h ?_);cases left with
 |true=>
  rw[if_pos rfl];exact T.lt dx dk hk q
 |false=>
  rw[if_neg (!2)];exact wpS_bind (T.lt dk dx hk (wpS_pure q))
theorem Gk(T:Lts M A E s κ L D){left:Bool}{key:Keyed}{a:Array Keyed}{base n h:Nat}{st:SortSt}{Q:Option Nat->SortSt->Prop}(xs:Nat->Keyed)(hx:∀i,i<n->a[base+i]?=some (xs i))(dx:∀i,i<n->D (xs i))(dk:D key)(hk:kindOf st=κ)(hh:h<n)
  (anti:∀i j,i<j->j<n->D8 L left key (xs j)=true->D8 L left key (xs i)=true)
  (q:∀k,k<=n->(∀i,i<k->D8 L left key (xs i)=true)->(∀i,k<=i->i<n->D8 L left key (xs i)=false)->Q (some k) st):wpS M A E s (mH left key a base n h) Q st:=by
 have up:∀{i},i<n->D8 L left key (xs i)=true->∀j,j<=i->D8 L left key (xs j)=true:=λ{i} hi e j hj=>by
  rcases lt_or_ge j i with z|z
  ·exact anti j i z hi e
  ·rw[show j=i by omega];exact e
 have dn:∀{i},i<n->D8 L left key (xs i)=false->∀j,i<=j->j<n->D8 L left key (xs j)=false:=λ{i} hi e j hj hj'=>by
  cases z:D8 L left key (xs j)with
  |false=>rfl
  |true=>rw[up hj' z i hj]at e;cases e
 unfold mH
 walk_at"un_gallop"
 dsimp only;refine wpS_bind (dM T (hx h hh) (dx h hh) dk hk ?_);dsimp only;have fin:∀(lo hi:Nat),lo<=hi->hi<=n->(∀i,i<lo->D8 L left key (xs i)=true)->(∀i,hi<=i->i<n->D8 L left key (xs i)=false)->
   ∀{body:Nat->Option (Option Nat)×Nat×Nat->StateT SortSt Sem (ForInStep (Option (Option Nat)×Nat×Nat))}{g:Option (Option Nat)×Nat×Nat->StateT SortSt Sem (Option Nat)},
   (∀x lo hi (R:ForInStep (Option (Option Nat)×Nat×Nat)->SortSt->Prop),lo ≥ hi->R (.done (none,lo,hi)) st->wpS M A E s (body x (none,lo,hi)) R st)->
   (∀x lo hi (R:ForInStep (Option (Option Nat)×Nat×Nat)->SortSt->Prop),lo<hi->lo+(hi-lo) / 2<n->R (.yield (if D8 L left key (xs (lo+(hi-lo) / 2))=true then(none,lo+(hi-lo) / 2+1,hi)else(none,lo,lo+(hi-lo) / 2))) st->wpS M A E s (body x (none,lo,hi)) R st)->
   (∀k,Q (some k) st->wpS M A E s (g (none,k,k)) Q st)->wpS M A E s (forIn [:n] (none,lo,hi) body >>= g) Q st:=by
  intro lo hi hle hin hlo hhi body g hb1 hb2 hg;refine wpS_bind (wpS_mono (wpS_forRange (I:=λi c st'=>st'=st/\∃lo hi,c=(none,lo,hi)/\lo<=hi/\hi<=n/\hi-lo+i<=n/\(∀i,i<lo->D8 L left key (xs i)=true)/\(∀i,hi<=i->i<n->D8 L left key (xs i)=false))
   (Q:=λc st'=>st'=st/\∃k,c=(none,k,k)/\k<=n/\(∀i,i<k->D8 L left key (xs i)=true)/\(∀i,k<=i->i<n->D8 L left key (xs i)=false)) ?step ?fin ⟨rfl,lo,hi,rfl,hle,hin,!1,hlo,hhi⟩) ?post)
  case fin=>
   rintro c st' ⟨rfl,lo,hi,rfl,h1,h2,h3,h4,h5⟩;have:lo=hi:=by omega
   subst this;exact⟨rfl,lo,rfl,h2,h4,h5⟩
  case post=>
   rintro c st' ⟨rfl,k,rfl,h1,h2,h3⟩;exact hg k (q k h1 h2 h3)
  case step=>
   rintro i c st' _ hi' ⟨rfl,lo,hi,rfl,h1,h2,h3,h4,h5⟩;by_cases hge:lo ≥ hi
   ·have:lo=hi:=by omega
    subst this;exact hb1 _ _ _ _ hge ⟨rfl,lo,rfl,h2,h4,h5⟩
   ·have hm:lo+(hi-lo) / 2<n:=by omega
    refine hb2 _ _ _ _ (!1) hm ?_;cases z:D8 L left key (xs (lo+(hi-lo) / 2))with
    |true=>
     rw[if_pos rfl];exact⟨rfl,_,_,rfl,!1,h2,!1,λj hj=>up hm z j (!1),h5⟩
    |false=>
     rw[if_neg (!2)];exact⟨rfl,_,_,rfl,!1,!1,!1,h4,λj hj hj'=>dn hm z j hj hj'⟩
 cases z:D8 L left key (xs h)with
 |true=>
  rw[if_pos rfl];refine wpS_bind (wpS_mono (wpS_forRange (I:=λi c st'=>st'=st/\∃l o,c=(none,l,o)/\l<o/\i+1<=o/\h+l<n/\D8 L left key (xs (h+l))=true)
   (Q:=λc st'=>st'=st/\∃l o,c=(none,l,o)/\l<o/\h+l<n/\D8 L left key (xs (h+l))=true/\(n-h<=o∨(h+o<n/\D8 L left key (xs (h+o))=false))) ?step ?fin ⟨rfl,0,1,rfl,!3,!3,hh,z⟩) ?post)
  case fin=>
   rintro c st' ⟨rfl,l,o,rfl,h1,h2,h3,h4⟩;exact⟨rfl,l,o,rfl,h1,h3,h4,.inl (!1)⟩
  case post=>
   rintro c st' ⟨rfl,l,o,rfl,h1,h2,h3,h4⟩;dsimp only;refine fin (h+l+1) (h+min o (n-h)) (!1) (!1) (λi hi=>up h2 h3 i (!1)) (λi hi hi'=>?_) (λx lo hi R hge hR=>by dsimp only;rw[if_pos hge];exact wpS_pure hR) (λx lo hi R hlt hm hR=>?_) λk hk=>wpS_pure hk
   ·rcases h4 with h4|⟨h4,h5⟩
    ·omega
    ·exact dn h4 h5 i (!1) hi'
   ·dsimp only
    rw[if_neg (!1)];refine wpS_bind (dM T (hx _ hm) (dx _ hm) dk hk ?_);dsimp only;cases z:D8 L left key (xs (lo+(hi-lo) / 2))<;>rw[z]at hR<;>exact wpS_pure hR
  case step=>
   rintro i c st' _ hi' ⟨rfl,l,o,rfl,h1,h2,h3,h4⟩;dsimp only;by_cases hge:o ≥ n-h
   ·rw[if_pos hge]
    exact wpS_pure ⟨rfl,l,o,rfl,h1,h3,h4,.inl hge⟩
   ·rw[if_neg hge]
    have hm:h+o<n:=by omega
    refine wpS_bind (dM T (hx _ hm) (dx _ hm) dk hk ?_);dsimp only;cases z':D8 L left key (xs (h+o))with
    |true=>exact wpS_pure ⟨rfl,o,2*o+1,rfl,!1,!1,hm,z'⟩
    |false=>exact wpS_pure ⟨rfl,l,o,rfl,h1,h3,h4,.inr ⟨hm,z'⟩⟩
 |false=>
  rw[if_neg (!2)];refine wpS_bind (wpS_mono (wpS_forRange (I:=λi c st'=>st'=st/\∃l o,c=(none,l,o)/\l<o/\i+1<=o/\l<=h/\D8 L left key (xs (h-l))=false)
   (Q:=λc st'=>st'=st/\∃l o,c=(none,l,o)/\l<o/\l<=h/\D8 L left key (xs (h-l))=false/\(h+1<=o∨(o<=h/\D8 L left key (xs (h-o))=true))) ?step ?fin ⟨rfl,0,1,rfl,!3,!3,zero_le _,z⟩) ?post)
  case fin=>
   rintro c st' ⟨rfl,l,o,rfl,h1,h2,h3,h4⟩;exact⟨rfl,l,o,rfl,h1,h3,h4,.inl (!1)⟩
  case post=>
   rintro c st' ⟨rfl,l,o,rfl,h1,h2,h3,h4⟩;dsimp only;refine fin (h+1-min o (h+1)) (h-l) (!1) (!1) (λi hi=>?_) (λi hi hi'=>dn (!1) h3 i hi hi') (λx lo hi R hge hR=>by dsimp only;rw[if_pos hge];exact wpS_pure hR) (λx lo hi R hlt hm hR=>?_) λk hk=>wpS_pure hk
   ·rcases h4 with h4|⟨h4,h5⟩
    ·omega
    ·exact up (!1) h5 i (!1)
   ·dsimp only
    rw[if_neg (!1)];refine wpS_bind (dM T (hx _ hm) (dx _ hm) dk hk ?_);dsimp only;cases z:D8 L left key (xs (lo+(hi-lo) / 2))<;>rw[z]at hR<;>exact wpS_pure hR
  case step=>
   rintro i c st' _ hi' ⟨rfl,l,o,rfl,h1,h2,h3,h4⟩;dsimp only;by_cases hge:o ≥ h+1
   ·rw[if_pos hge]
    exact wpS_pure ⟨rfl,l,o,rfl,h1,h3,h4,.inl hge⟩
   ·rw[if_neg hge]
    have hm:h-o<n:=by omega
    refine wpS_bind (dM T (hx _ hm) (dx _ hm) dk hk ?_);dsimp only;cases z':D8 L left key (xs (h-o))with
    |true=>exact wpS_pure ⟨rfl,l,o,rfl,h1,h3,h4,.inr ⟨!1,z'⟩⟩
    |false=>exact wpS_pure ⟨rfl,o,2*o+1,rfl,!1,!1,!1,z'⟩
end
end Rg
namespace Rg
open PySem PySem.W PyProof.Rows
section
variable{α:Type}{L:α->α->Bool}{D:α->Prop}
structure Ord(L:α->α->Bool)(D:α->Prop):Prop where
 asy:∀{x y:α},D x->D y->L x y=true->L y x=false
 tr:∀{x y z:α},D x->D y->D z->L y x=false->L z y=false->L z x=false
abbrev K7(L:α->α->Bool)(l:List α):Prop:=l.Pairwise λx y=>L y x=false
structure MG(L:α->α->Bool)(D:α->Prop)(a b:List α):Prop where
 od:Ord L D
 da:∀x∈a,D x
 db:∀x∈b,D x
 sa:K7 L a
 sb:K7 L b
structure MI(L:α->α->Bool)(a b out:List α)(ia ib:Nat):Prop where
 pm:(out++(a.drop ia++b.drop ib)).Perm (a++b)
 so:K7 L out
 la:∀x∈out,∀y∈a.drop ia,L y x=false
 lb:∀x∈out,∀y∈b.drop ib,L y x=false
theorem R5{l:List α}{i:Nat}{x:α}(h:l[i]?=some x):l.drop i=x::l.drop (i+1):=by
 obtain⟨hi,e⟩:=List.getElem?_eq_some_iff.mp h;rw[←e];exact drop_eq_getElem_cons hi
theorem gX{l:List α}{i:Nat}{x:α}(s:K7 L l)(h:l[i]?=some x):∀y∈l.drop (i+1),L y x=false:=by
 have s':K7 L (l.drop i):=s.sublist (List.drop_sublist _ _);rw[R5 h]at s';exact(List.pairwise_cons.mp s').1
section
variable{a b out:List α}{ia ib:Nat}
theorem MG.le_b(G:MG L D a b){x y:α}(dx:D x)(h:b[ib]?=some y)(e:L y x=false):∀z∈b.drop ib,L z x=false:=by
 intro z hz;rw[R5 h]at hz;rcases mem_cons.mp hz with rfl|hz
 ·exact e
 ·exact G.od.tr dx (G.db y (mem_of_getElem? h)) (G.db z (List.mem_of_mem_drop hz)) e (gX G.sb h z hz)
theorem MG.le_a(G:MG L D a b){x y:α}(dy:D y)(h:a[ia]?=some x)(e:L x y=false):∀z∈a.drop ia,L z y=false:=by
 intro z hz;rw[R5 h]at hz;rcases mem_cons.mp hz with rfl|hz
 ·exact e
 ·exact G.od.tr dy (G.da x (mem_of_getElem? h)) (G.da z (List.mem_of_mem_drop hz)) e (gX G.sa h z hz)
theorem MI.pa(G:MG L D a b)(h:MI L a b out ia ib){x:α}(ha:a[ia]?=some x)(hle:∀y∈b.drop ib,L y x=false):MI L a b (out++[x]) (ia+1) ib:=by
 refine⟨?_,?_,?_,?_⟩
 ·have:=h.pm
  rw[R5 ha]at this;rw[append_assoc];exact this
 ·refine List.pairwise_append.mpr ⟨h.so,List.pairwise_singleton _ _,λy hy z hz=>?_⟩
  rw[mem_singleton.mp hz];exact h.la y hy x (by rw[R5 ha];exact mem_cons_self)
 ·intro y hy z hz
  rcases mem_append.mp hy with hy|hy
  ·exact h.la y hy z (by rw[R5 ha];exact mem_cons_of_mem _ hz)
  ·rw[mem_singleton.mp hy]
   exact gX G.sa ha z hz
 ·intro y hy z hz
  rcases mem_append.mp hy with hy|hy
  ·exact h.lb y hy z hz
  ·rw[mem_singleton.mp hy]
   exact hle z hz
theorem MI.pb(G:MG L D a b)(h:MI L a b out ia ib){y:α}(hb:b[ib]?=some y)(hle:∀x∈a.drop ia,L x y=false):MI L a b (out++[y]) ia (ib+1):=by
 refine⟨?_,?_,?_,?_⟩
 ·have:=h.pm
  rw[R5 hb]at this;refine List.Perm.trans ?_ this;rw[append_assoc];rw[List.singleton_append];exact List.Perm.append_left _ List.perm_middle.symm
 ·refine List.pairwise_append.mpr ⟨h.so,List.pairwise_singleton _ _,λz hz w hw=>?_⟩
  rw[mem_singleton.mp hw];exact h.lb z hz y (by rw[R5 hb];exact mem_cons_self)
 ·intro z hz w hw
  rcases mem_append.mp hz with hz|hz
  ·exact h.la z hz w hw
  ·rw[mem_singleton.mp hz]
   exact hle w hw
 ·intro z hz w hw
  rcases mem_append.mp hz with hz|hz
  ·exact h.lb z hz w (by rw[R5 hb];exact mem_cons_of_mem _ hw)
  ·rw[mem_singleton.mp hz]
   exact gX G.sb hb w hw
theorem MI.pas(G:MG L D a b)(h:MI L a b out ia ib){y:α}(hb:b[ib]?=some y):∀k:Nat,ia+k<=a.length->(∀i x,i<k->a[ia+i]?=some x->L y x=false)->MI L a b (out++(a.drop ia).take k) (ia+k) ib
 |0,_,_=>by rw[List.take_zero,append_nil];exact h
 |k+1,hk,hl=>by
  have ih:=MI.pas G h hb k (!1) λi x hi=>hl i x (!1)
  have ex:a[ia+k]?=some a[ia+k]:=getElem?_eq_getElem (!1);have e:(a.drop ia).take (k+1)=(a.drop ia).take k++[a[ia+k]]:=by
   rw[take_succ,List.getElem?_drop,ex];rfl
  rw[e,←append_assoc];exact ih.pa G ex (G.le_b (G.da _ (mem_of_getElem? ex)) hb (hl k _ (!1) ex))
theorem MI.pbs(G:MG L D a b)(h:MI L a b out ia ib){x:α}(ha:a[ia]?=some x):∀k:Nat,ib+k<=b.length->(∀i y,i<k->b[ib+i]?=some y->L x y=false)->MI L a b (out++(b.drop ib).take k) ia (ib+k)
 |0,_,_=>by rw[List.take_zero,append_nil];exact h
 |k+1,hk,hl=>by
  have ih:=MI.pbs G h ha k (!1) λi x hi=>hl i x (!1)
  have ex:b[ib+k]?=some b[ib+k]:=getElem?_eq_getElem (!1);have e:(b.drop ib).take (k+1)=(b.drop ib).take k++[b[ib+k]]:=by
   rw[take_succ,List.getElem?_drop,ex];rfl
  rw[e,←append_assoc];exact ih.pb G ex (G.le_a (G.db _ (mem_of_getElem? ex)) ha (hl k _ (!1) ex))
def Done(L:α->α->Bool)(a b z:List α):Prop:=z.Perm (a++b)/\K7 L z
theorem MI.fb(G:MG L D a b)(h:MI L a b out ia ib)(e:ib=b.length):Done L a b (out++a.drop ia++b.drop ib):=by
 have e2:b.drop ib=[]:=drop_of_length_le (!1);refine⟨by rw[append_assoc];exact h.pm,?_⟩;rw[e2,append_nil];exact List.pairwise_append.mpr ⟨h.so,G.sa.sublist (List.drop_sublist _ _),h.la⟩
theorem MI.fa(G:MG L D a b)(h:MI L a b out ia ib)(e:ia=a.length):Done L a b (out++a.drop ia++b.drop ib):=by
 have e2:a.drop ia=[]:=drop_of_length_le (!1);refine⟨by rw[append_assoc];exact h.pm,?_⟩;rw[e2,append_nil];exact List.pairwise_append.mpr ⟨h.so,G.sb.sublist (List.drop_sublist _ _),h.lb⟩
theorem MI.fl(G:MG L D a b)(h:MI L a b out ia ib){x:α}(e:ia+1=a.length)(hx:a[ia]?=some x)(hl:∀y∈b,L x y=false):Done L a b (out++b.drop ib++a.drop ia):=by
 have e2:a.drop ia=[x]:=by rw[R5 hx,drop_of_length_le (!1)]
 refine⟨?_,?_⟩
 ·refine List.Perm.trans ?_ h.pm
  rw[append_assoc];exact List.Perm.append_left _ List.perm_append_comm
 ·rw[e2]
  refine List.pairwise_append.mpr ⟨List.pairwise_append.mpr ⟨h.so,G.sb.sublist (List.drop_sublist _ _),h.lb⟩,List.pairwise_singleton _ _,λy hy z hz=>?_⟩;rw[mem_singleton.mp hz];rcases mem_append.mp hy with hy|hy
  ·exact h.la y hy x (by rw[e2];exact mem_singleton.mpr rfl)
  ·exact hl y (List.mem_of_mem_drop hy)
end
end
end Rg
namespace Rg
open PySem PySem.W PyProof.Rows
def Gm:Nat->StateT SortSt Sem Unit:=sortPriv% PySem.Builtin.setMinGallop
local macro_rules|`(tactic| walk_at"un_lo")=>do
 let i:=Lean.mkIdent (Lean.mkPrivateNameCore `PySem.Builtin.List.W1All `PySem.Builtin.mergeLo)
 `(tactic| unfold $i:ident)
structure SE(st st':SortSt):Prop where
 k:kindOf st'=kindOf st
 a:arrOf st'=arrOf st
 p:pendingOf st'=pendingOf st
 f:failedOf st'=failedOf st
theorem SE.refl(st:SortSt):SE st st:=⟨rfl,rfl,rfl,rfl⟩
section
variable{M:Model}{A:Around}{E:Value->Shared->Prop}{s:Shared}{κ:SortKind}{L:Keyed->Keyed->Bool}{D:Keyed->Prop}
theorem gY{g:Nat}{st0 st:SortSt}{Q:Unit->SortSt->Prop}(e:SE st0 st)(q:∀st',SE st0 st'->Q () st'):wpS M A E s (Gm g) Q st:=
 wpS_modify (q _ ⟨e.k,e.a,e.p,e.f⟩)
theorem Lts.od(T:Lts M A E s κ L D):Ord L D:=⟨T.asy,T.tr⟩
theorem Z6{α:Type}(a:Array α)(i k:Nat):(a.extract i (i+k)).toList=(a.toList.drop i).take k:=by
 rw[Array.toList_extract,List.extract_eq_drop_take,add_sub_cancel_left]
theorem bL{α:Type}(a:Array α)(i:Nat):(a.extract i).toList=a.toList.drop i:=by
 rw[Array.toList_extract,List.extract_eq_drop_take,take_of_length_le (!2)]
theorem L5{α:Type}{a:Array α}{i:Nat}(h:i<a.size):∃x,a[i]?=some x/\a.toList[i]?=some x/\x∈a.toList:=⟨a[i],Array.getElem?_eq_getElem h,by rw[Array.getElem?_toList];exact Array.getElem?_eq_getElem h,!2⟩
theorem X8{key x:Keyed}{c:Bool}:D8 L false key x=c↔L key x=!c:=by
 show(!L key x)=c↔_;cases L key x<;>cases c<;>simp
theorem Go{key x:Keyed}:D8 L true key x=L x key:=rfl
theorem mI{l:List Keyed}(r:K7 L l){i j:Nat}{x z:Keyed}(hij:i<j)(hx:l[i]?=some x)(hz:l[j]?=some z):L z x=false:=by
 obtain⟨h1,rfl⟩:=List.getElem?_eq_some_iff.mp hx;obtain⟨h2,rfl⟩:=List.getElem?_eq_some_iff.mp hz;exact pairwise_iff_getElem.mp r i j h1 h2 hij
theorem Gp(o:Ord L D){l:List Keyed}(r:K7 L l)(d:∀x∈l,D x){key x z:Keyed}{i j:Nat}(dk:D key)(hij:i<j)(hx:l[i]?=some x)(hz:l[j]?=some z)(e:D8 L false key z=true):D8 L false key x=true:=
 X8.mpr (o.tr (d x (mem_of_getElem? hx)) (d z (mem_of_getElem? hz)) dk (mI r hij hx hz) (X8.mp e))
theorem Gq(o:Ord L D){l:List Keyed}(r:K7 L l)(d:∀x∈l,D x){key x z:Keyed}{i j:Nat}(dk:D key)(hij:i<j)(hx:l[i]?=some x)(hz:l[j]?=some z)(e:D8 L true key z=true):D8 L true key x=true:=by
 rw[Go]at e ⊢;cases h:L x key with
 |true=>rfl
 |false=>rw[o.tr dk (d x (mem_of_getElem? hx)) (d z (mem_of_getElem? hz)) h (mI r hij hx hz)]at e;cases e
theorem X9(T:Lts M A E s κ L D){left:Bool}{key:Keyed}{a:Array Keyed}{base n h:Nat}{st:SortSt}{Q:Option Nat->SortSt->Prop}(o:K7 L ((a.toList.drop base).take n))(d:∀x∈(a.toList.drop base).take n,D x)(dk:D key)(hk:kindOf st=κ)(hn:base+n<=a.size)(hh:h<n)
  (q:∀k,k<=n->(∀i x,i<k->a[base+i]?=some x->D8 L left key x=true)->(∀i x,k<=i->i<n->a[base+i]?=some x->D8 L left key x=false)->Q (some k) st):wpS M A E s (mH left key a base n h) Q st:=by
 have gt:∀i,i<n->∃x,a[base+i]?=some x/\((a.toList.drop base).take n)[i]?=some x/\a.getD (base+i) key=x:=λi hi=>by
  obtain⟨x,e1,e2,e3⟩:=L5 (a:=a) (i:=base+i) (!1);exact⟨x,e1,by rw[getElem?_take,if_pos hi,List.getElem?_drop];exact e2,by rw[Array.getD_eq_getD_getElem?,e1];rfl⟩
 refine Gk T (λi=>a.getD (base+i) key) (λi hi=>?_) (λi hi=>?_) dk hk hh (λi j hij hj e=>?_) λk h1 h2 h3=>q k h1 (λi x hi hx=>?_) λi x hi hi' hx=>?_
 ·obtain⟨x,e1,_,e3⟩:=gt i hi
  rw[e1];exact congrArg some e3.symm
 ·obtain⟨x,_,e2,e3⟩:=gt i hi
  rw[e3];exact d x (mem_of_getElem? e2)
 ·obtain⟨x,_,x2,x3⟩:=gt i (!1)
  obtain⟨z,_,z2,z3⟩:=gt j hj;rw[z3]at e;rw[x3];cases left with
  |true=>exact Gq T.od o d dk hij x2 z2 e
  |false=>exact Gp T.od o d dk hij x2 z2 e
 ·obtain⟨x',e1,_,e3⟩:=gt i (!1)
  rw[hx]at e1;cases e1;have:=h2 i hi;rw[e3]at this;exact this
 ·obtain⟨x',e1,_,e3⟩:=gt i hi'
  rw[hx]at e1;cases e1;have:=h3 i hi hi';rw[e3]at this;exact this
theorem Gr(T:Lts M A E s κ L D){a b:Array Keyed}{st:SortSt}{Q:Array Keyed->SortSt->Prop}(G:MG L D a.toList b.toList)(ha:0<a.size)(hb:0<b.size)
  (hfst:∀y,b[0]?=some y->∀x∈a.toList,L x y=false) (hlst:∀x,a[a.size-1]?=some x->∀y∈b.toList,L x y=false) (hk:kindOf st=κ)
  (q:∀(z:Array Keyed)(st':SortSt),Done L a.toList b.toList z.toList->SE st st'->Q z st'):wpS M A E s (wG a b) Q st:=by
 unfold wG
 walk_at"un_lo"
 refine wpS_bind (wpS_lift (wpAny_rule ⟨rfl,?_⟩));dsimp only;obtain⟨b0,eb0,eb0',mb0⟩:=L5 hb;refine wpS_bind (E4 eb0 ?_);have I0:MI L a.toList b.toList (#[b0]:Array Keyed).toList 0 1:=by
  have:MI L a.toList b.toList [] 0 0:=⟨!2,.nil,λx hx=>absurd hx (!2),λx hx=>absurd hx (!2)⟩;exact this.pb G eb0' (λx hx=>hfst b0 eb0 x (List.mem_of_mem_drop hx))
 have last:∀{out:Array Keyed}{ia ib:Nat},MI L a.toList b.toList out.toList ia ib->ia+1=a.size->Done L a.toList b.toList (out++b.extract ib++a.extract ia).toList:=λ{out ia ib} h e=>by
  obtain⟨x,ex,ex',_⟩:=L5 (a:=a) (i:=ia) (!1);rw[Array.toList_append,Array.toList_append,bL,bL];exact h.fl G (by rw[Array.length_toList];exact e) ex' (hlst x (by rw[show a.size-1=ia by omega];exact ex))
 have doneB:∀{out:Array Keyed}{ia ib:Nat},MI L a.toList b.toList out.toList ia ib->ib=b.size->Done L a.toList b.toList (out++a.extract ia++b.extract ib).toList:=λ{out ia ib} h e=>by
  rw[Array.toList_append,Array.toList_append,bL,bL];exact h.fb G (by rw[Array.length_toList];exact e)
 have doneA:∀{out:Array Keyed}{ia ib:Nat},MI L a.toList b.toList out.toList ia ib->ia=a.size->Done L a.toList b.toList (out++a.extract ia++b.extract ib).toList:=λ{out ia ib} h e=>by
  rw[Array.toList_append,Array.toList_append,bL,bL];exact h.fa G (by rw[Array.length_toList];exact e)
 have pushA:∀{out:Array Keyed}{ia ib:Nat}{x y:Keyed},MI L a.toList b.toList out.toList ia ib->a[ia]?=some x->b[ib]?=some y->L y x=false->MI L a.toList b.toList (out.push x).toList (ia+1) ib:=λ{out ia ib x y} h ex ey e=>by
  rw[Array.toList_push];have ex':a.toList[ia]?=some x:=by rw[Array.getElem?_toList];exact ex
  have ey':b.toList[ib]?=some y:=by rw[Array.getElem?_toList];exact ey
  exact h.pa G ex' (G.le_b (G.da x (mem_of_getElem? ex')) ey' e)
 have pushB:∀{out:Array Keyed}{ia ib:Nat}{x y:Keyed},MI L a.toList b.toList out.toList ia ib->a[ia]?=some x->b[ib]?=some y->L x y=false->MI L a.toList b.toList (out.push y).toList ia (ib+1):=λ{out ia ib x y} h ex ey e=>by
  rw[Array.toList_push];have ex':a.toList[ia]?=some x:=by rw[Array.getElem?_toList];exact ex
  have ey':b.toList[ib]?=some y:=by rw[Array.getElem?_toList];exact ey
  exact h.pb G ey' (G.le_a (G.db y (mem_of_getElem? ey')) ex' e)
 by_cases h1:(1==b.size)=true
 ·rw[if_pos h1]
  exact wpS_pure (q _ _ (doneB I0 (by simpa using h1)) (SE.refl st))
 rw[if_neg h1];have h1':1<b.size:=by
  have:¬1=b.size:=by simpa using h1
  omega
 by_cases h2:(0+1==a.size)=true
 ·rw[if_pos h2]
  exact wpS_pure (q _ _ (last I0 (by simpa using h2)) (SE.refl st))
 rw[if_neg h2];have h2':0+1<a.size:=by
  have:¬0+1=a.size:=by simpa using h2
  omega
 refine wpS_bind (wpS_get ?_);refine wpS_bind (wpS_mono (wpS_forRange (I:=λi c st'=>SE st st'/\∃out ia ib mg,c=(none,out,ia,ib,mg)/\MI L a.toList b.toList out.toList ia ib/\ia+1<a.size/\ib<b.size/\i+1<=ia+ib)
   (Q:=λc st'=>SE st st'/\∃z r,c=(some z,r)/\Done L a.toList b.toList z.toList) ?step ?fin ⟨SE.refl st,_,0,1,_,rfl,I0,h2',h1',!1⟩) ?post)
 case fin=>
  rintro c st' ⟨_,out,ia,ib,mg,_,_,e1,e2,e3⟩;omega
 case post=>
  rintro c st' ⟨se,z,r,rfl,dn⟩;exact wpS_pure (q z st' dn se)
 case step=>
  rintro i c st1 _ hi ⟨se1,out,ia,ib,mg,rfl,mi,la,lb,li⟩;dsimp only;refine wpS_bind (wpS_mono (wpS_forRange (I:=λj c st'=>SE st st'/\∃out ia ib ac bc,c=(none,out,ia,ib,ac,bc)/\MI L a.toList b.toList out.toList ia ib/\ia+1<a.size/\ib<b.size/\i+1<=ia+ib)
   (Q:=λc st'=>SE st st'/\((∃z r,c=(some z,r)/\Done L a.toList b.toList z.toList)∨∃out ia ib ac bc,c=(none,out,ia,ib,ac,bc)/\MI L a.toList b.toList out.toList ia ib/\ia+1<a.size/\ib<b.size/\i+1<=ia+ib)) ?step1 ?fin1 ⟨se1,out,ia,ib,0,0,rfl,mi,la,lb,li⟩) ?post1)
  case fin1=>exact λc st' h=>⟨h.1,.inr h.2⟩
  case step1=>
   rintro j c st2 _ hj ⟨se2,out,ia,ib,ac,bc,rfl,mi,la,lb,li⟩;dsimp only;obtain⟨y,ey,ey',my⟩:=L5 lb;obtain⟨x,ex,ex',mx⟩:=L5 (a:=a) (i:=ia) (!1);refine wpS_bind (E4 ey (wpS_bind (E4 ex (wpS_bind (T.lt (G.db y my) (G.da x mx) (se2.k.trans hk) ?_)))));dsimp only;cases z:L y x with
   |true=>
    rw[if_pos rfl];refine wpS_bind (E4 ey ?_);have mi':=pushB mi ex ey (T.asy (G.db y my) (G.da x mx) z);by_cases e:(ib+1==b.size)=true
    ·rw[if_pos e]
     exact wpS_pure ⟨se2,.inl ⟨_,_,rfl,doneB mi' (by simpa using e)⟩⟩
    ·rw[if_neg e]
     have e':¬ib+1=b.size:=by simpa using e
     by_cases e2:bc+1 ≥ mg
     ·rw[if_pos e2]
      exact wpS_pure ⟨se2,.inr ⟨_,_,_,_,_,rfl,mi',la,!1,!1⟩⟩
     ·rw[if_neg e2]
      exact wpS_pure ⟨se2,_,_,_,_,_,rfl,mi',la,!1,!1⟩
   |false=>
    rw[if_neg (!2)];refine wpS_bind (E4 ex ?_);have mi':=pushA mi ex ey z;by_cases e:(ia+1+1==a.size)=true
    ·rw[if_pos e]
     exact wpS_pure ⟨se2,.inl ⟨_,_,rfl,last mi' (by simpa using e)⟩⟩
    ·rw[if_neg e]
     have e':¬ia+1+1=a.size:=by simpa using e
     by_cases e2:ac+1 ≥ mg
     ·rw[if_pos e2]
      exact wpS_pure ⟨se2,.inr ⟨_,_,_,_,_,rfl,mi',!1,lb,!1⟩⟩
     ·rw[if_neg e2]
      exact wpS_pure ⟨se2,_,_,_,_,_,rfl,mi',!1,lb,!1⟩
  case post1=>
   rintro c st2 ⟨se2,⟨z,r,rfl,dn⟩|⟨out,ia,ib,ac,bc,rfl,mi,la,lb,li⟩⟩
   ·exact wpS_pure ⟨se2,z,_,rfl,dn⟩
   dsimp only;refine wpS_bind (wpS_lift (wpAny_rule ⟨rfl,?_⟩));refine wpS_bind (wpS_mono (wpS_forRange (I:=λj c st'=>SE st st'/\∃out ia ib mg ac bc,c=(none,out,ia,ib,mg,ac,bc)/\MI L a.toList b.toList out.toList ia ib/\ia+1<a.size/\ib<b.size/\i+1+j<=ia+ib)
    (Q:=λc st'=>SE st st'/\((∃z r,c=(some z,r)/\Done L a.toList b.toList z.toList)∨∃out ia ib mg ac bc,c=(none,out,ia,ib,mg,ac,bc)/\MI L a.toList b.toList out.toList ia ib/\ia+1<a.size/\ib<b.size/\i+2<=ia+ib)) ?step2 ?fin2 ⟨se2,out,ia,ib,_,_,_,rfl,mi,la,lb,li⟩) ?post2)
   case fin2=>
    rintro c st' ⟨h,out,ia,ib,mg,ac,bc,rfl,h1,h2,h3,h4⟩;exact⟨h,.inr ⟨out,ia,ib,mg,ac,bc,rfl,h1,h2,h3,!1⟩⟩
   case post2=>
    rintro c st3 ⟨se3,⟨z,r,rfl,dn⟩|⟨out,ia,ib,mg,ac,bc,rfl,mi,la,lb,li⟩⟩
    ·exact wpS_pure ⟨se3,z,_,rfl,dn⟩
    dsimp only;refine wpS_bind (gY se3 λst4 se4=>wpS_pure ⟨se4,_,_,_,_,rfl,mi,la,lb,!1⟩)
   case step2=>
    rintro j c st3 _ hj ⟨se3,out,ia,ib,mg,ac,bc,rfl,mi,la,lb,li⟩;dsimp only;obtain⟨y,ey,ey',my⟩:=L5 lb;by_cases hmg:mg>1
    all_goals first|rw[if_pos hmg]|rw[if_neg hmg]
    all_goals
     refine wpS_bind (gY se3 λst4 se4=>wpS_bind (E4 ey (wpS_bind (X9 T (G.sa.sublist ((List.take_sublist _ _).trans (List.drop_sublist _ _))) (λx hx=>G.da x (List.mem_of_mem_drop (mem_of_mem_take hx))) (G.db y my) (se4.k.trans hk) (!1) (!1) λk hkn hk1 hk2=>?_))));dsimp only;have mi2:MI L a.toList b.toList (out++a.extract ia (ia+k)).toList (ia+k) ib:=by
      rw[Array.toList_append,Z6];exact mi.pas G ey' k (by rw[Array.length_toList];omega) λi x hi hx=>X8.mp (hk1 i x hi (by rw[←Array.getElem?_toList];exact hx))
     have go:∀{o2:Array Keyed}{i2:Nat},MI L a.toList b.toList o2.toList i2 ib->i2=ia+k->i2+1<a.size->∃x,a[i2]?=some x/\x∈a.toList/\MI L a.toList b.toList (o2.push y).toList i2 (ib+1):=λ{o2 i2} m e l=>by
      obtain⟨x,ex,ex',mx⟩:=L5 (a:=a) (i:=i2) (!1);have hb2:L y x=true:=by
       have:=hk2 k x (le_refl _) (!1) (by rw[←e];exact ex);exact X8.mp this
      exact⟨x,ex,mx,pushB m ex ey (T.asy (G.db y my) (G.da x mx) hb2)⟩
     by_cases hk0:k>0
     ·rw[if_pos hk0]
      by_cases e1:(ia+k+1==a.size)=true
      ·rw[if_pos e1]
       exact wpS_pure ⟨se4,.inl ⟨_,_,rfl,last mi2 (by simpa using e1)⟩⟩
      rw[if_neg e1];by_cases e2:(ia+k==a.size)=true
      ·rw[if_pos e2]
       exact wpS_pure ⟨se4,.inl ⟨_,_,rfl,doneA mi2 (by simpa using e2)⟩⟩
      rw[if_neg e2];have e1':¬ia+k+1=a.size:=by simpa using e1
      have e2':¬ia+k=a.size:=by simpa using e2
      obtain⟨x,ex,mx,mi3⟩:=go mi2 rfl (!1);have ex':a.toList[ia+k]?=some x:=by rw[Array.getElem?_toList];exact ex
      refine wpS_bind (E4 ey ?_);by_cases f1:(ib+1==b.size)=true
      ·rw[if_pos f1]
       exact wpS_pure ⟨se4,.inl ⟨_,_,rfl,doneB mi3 (by simpa using f1)⟩⟩
      rw[if_neg f1];have f1':¬ib+1=b.size:=by simpa using f1
      refine wpS_bind (E4 ex (wpS_bind (X9 T (G.sb.sublist ((List.take_sublist _ _).trans (List.drop_sublist _ _))) (λx hx=>G.db x (List.mem_of_mem_drop (mem_of_mem_take hx))) (G.da x mx) (se4.k.trans hk) (!1) (!1) λk2 hkn2 hj1 hj2=>?_)));dsimp only;have mi4:MI L a.toList b.toList ((out++a.extract ia (ia+k)).push y++b.extract (ib+1) (ib+1+k2)).toList (ia+k) (ib+1+k2):=by
       rw[Array.toList_append,Z6];exact mi3.pbs G ex' k2 (by rw[Array.length_toList];omega) λi z hi hz=>by
        have hz':b[ib+1+i]?=some z:=by rw[←Array.getElem?_toList];exact hz
        exact T.asy (G.db z (mem_of_getElem? hz)) (G.da x mx) (hj1 i z hi hz')
      have go2:∀{o3:Array Keyed}{i3:Nat},MI L a.toList b.toList o3.toList (ia+k) i3->i3=ib+1+k2->i3<b.size->MI L a.toList b.toList (o3.push x).toList (ia+k+1) i3:=λ{o3 i3} m e l=>by
       obtain⟨z,ez,ez',mz⟩:=L5 (a:=b) (i:=i3) l;exact pushA m ex ez (hj2 k2 z (le_refl _) (!1) (by rw[←e];exact ez))
      by_cases hk3:k2>0
      ·rw[if_pos hk3]
       by_cases f2:(ib+1+k2==b.size)=true
       ·rw[if_pos f2]
        exact wpS_pure ⟨se4,.inl ⟨_,_,rfl,doneB mi4 (by simpa using f2)⟩⟩
       rw[if_neg f2];have f2':¬ib+1+k2=b.size:=by simpa using f2
       have mi5:=go2 mi4 rfl (!1);refine wpS_bind (E4 ex ?_);by_cases g1:(ia+k+1+1==a.size)=true
       ·rw[if_pos g1]
        exact wpS_pure ⟨se4,.inl ⟨_,_,rfl,last mi5 (by simpa using g1)⟩⟩
       rw[if_neg g1];have g1':¬ia+k+1+1=a.size:=by simpa using g1
       by_cases g2:(decide (k<7)&&decide (k2<7))=true
       ·rw[if_pos g2]
        exact wpS_pure ⟨se4,.inr ⟨_,_,_,_,_,_,rfl,mi5,!1,!1,!1⟩⟩
       ·rw[if_neg g2]
        exact wpS_pure ⟨se4,_,_,_,_,_,_,rfl,mi5,!1,!1,!1⟩
      ·rw[if_neg hk3]
       have mi5:=go2 mi3 (!1) (!1);refine wpS_bind (E4 ex ?_);by_cases g1:(ia+k+1+1==a.size)=true
       ·rw[if_pos g1]
        exact wpS_pure ⟨se4,.inl ⟨_,_,rfl,last mi5 (by simpa using g1)⟩⟩
       rw[if_neg g1];have g1':¬ia+k+1+1=a.size:=by simpa using g1
       by_cases g2:(decide (k<7)&&decide (k2<7))=true
       ·rw[if_pos g2]
        exact wpS_pure ⟨se4,.inr ⟨_,_,_,_,_,_,rfl,mi5,!1,!1,!1⟩⟩
       ·rw[if_neg g2]
        exact wpS_pure ⟨se4,_,_,_,_,_,_,rfl,mi5,!1,!1,!1⟩
     ·rw[if_neg hk0]
      obtain⟨x,ex,mx,mi3⟩:=go mi (!1) la;have ex':a.toList[ia]?=some x:=by rw[Array.getElem?_toList];exact ex
      refine wpS_bind (E4 ey ?_);by_cases f1:(ib+1==b.size)=true
      ·rw[if_pos f1]
       exact wpS_pure ⟨se4,.inl ⟨_,_,rfl,doneB mi3 (by simpa using f1)⟩⟩
      rw[if_neg f1];have f1':¬ib+1=b.size:=by simpa using f1
      refine wpS_bind (E4 ex (wpS_bind (X9 T (G.sb.sublist ((List.take_sublist _ _).trans (List.drop_sublist _ _))) (λx hx=>G.db x (List.mem_of_mem_drop (mem_of_mem_take hx))) (G.da x mx) (se4.k.trans hk) (!1) (!1) λk2 hkn2 hj1 hj2=>?_)));dsimp only;have mi4:MI L a.toList b.toList ((out).push y++b.extract (ib+1) (ib+1+k2)).toList (ia) (ib+1+k2):=by
       rw[Array.toList_append,Z6];exact mi3.pbs G ex' k2 (by rw[Array.length_toList];omega) λi z hi hz=>by
        have hz':b[ib+1+i]?=some z:=by rw[←Array.getElem?_toList];exact hz
        exact T.asy (G.db z (mem_of_getElem? hz)) (G.da x mx) (hj1 i z hi hz')
      have go2:∀{o3:Array Keyed}{i3:Nat},MI L a.toList b.toList o3.toList (ia) i3->i3=ib+1+k2->i3<b.size->MI L a.toList b.toList (o3.push x).toList (ia+1) i3:=λ{o3 i3} m e l=>by
       obtain⟨z,ez,ez',mz⟩:=L5 (a:=b) (i:=i3) l;exact pushA m ex ez (hj2 k2 z (le_refl _) (!1) (by rw[←e];exact ez))
      by_cases hk3:k2>0
      ·rw[if_pos hk3]
       by_cases f2:(ib+1+k2==b.size)=true
       ·rw[if_pos f2]
        exact wpS_pure ⟨se4,.inl ⟨_,_,rfl,doneB mi4 (by simpa using f2)⟩⟩
       rw[if_neg f2];have f2':¬ib+1+k2=b.size:=by simpa using f2
       have mi5:=go2 mi4 rfl (!1);refine wpS_bind (E4 ex ?_);by_cases g1:(ia+1+1==a.size)=true
       ·rw[if_pos g1]
        exact wpS_pure ⟨se4,.inl ⟨_,_,rfl,last mi5 (by simpa using g1)⟩⟩
       rw[if_neg g1];have g1':¬ia+1+1=a.size:=by simpa using g1
       by_cases g2:(decide (k<7)&&decide (k2<7))=true
       ·rw[if_pos g2]
        exact wpS_pure ⟨se4,.inr ⟨_,_,_,_,_,_,rfl,mi5,!1,!1,!1⟩⟩
       ·rw[if_neg g2]
        exact wpS_pure ⟨se4,_,_,_,_,_,_,rfl,mi5,!1,!1,!1⟩
      ·rw[if_neg hk3]
       have mi5:=go2 mi3 (!1) (!1);refine wpS_bind (E4 ex ?_);by_cases g1:(ia+1+1==a.size)=true
       ·rw[if_pos g1]
        exact wpS_pure ⟨se4,.inl ⟨_,_,rfl,last mi5 (by simpa using g1)⟩⟩
       rw[if_neg g1];have g1':¬ia+1+1=a.size:=by simpa using g1
       by_cases g2:(decide (k<7)&&decide (k2<7))=true
       ·rw[if_pos g2]
        exact wpS_pure ⟨se4,.inr ⟨_,_,_,_,_,_,rfl,mi5,!1,!1,!1⟩⟩
       ·rw[if_neg g2]
        exact wpS_pure ⟨se4,_,_,_,_,_,_,rfl,mi5,!1,!1,!1⟩
end
end Rg
namespace Rg
open PySem PySem.W PyProof.Rows
local macro_rules|`(tactic| walk_at"un_hi")=>do
 let i:=Lean.mkIdent (Lean.mkPrivateNameCore `PySem.Builtin.List.W1All `PySem.Builtin.mergeHi)
 `(tactic| unfold $i:ident)
section
variable{α:Type}{L:α->α->Bool}{D:α->Prop}
theorem Y0{a:Array α}{n:Nat}{x:α}(h1:1<=n)(h2:n<=a.size)(e:a[n-1]?=some x):a.toList.reverse[a.size-n]?=some x:=by
 rw[getElem?_reverse (by rw[Array.length_toList];omega),Array.length_toList,show a.size-1-(a.size-n)=n-1 by omega,Array.getElem?_toList];exact e
theorem wI{l:List α}{m:Nat}(h:m<=l.length):l.reverse.drop (l.length-m)=(l.take m).reverse:=by
 rw[List.drop_reverse,show l.length-(l.length-m)=m by omega]
theorem Gs{l:List α}{j m:Nat}(h1:j<=m)(h2:m<=l.length):(l.reverse.drop (l.length-m)).take (m-j)=((l.drop j).take (m-j)).reverse:=by
 rw[wI h2,List.take_reverse,length_take,show min m l.length-(m-j)=j by omega,List.drop_take]
theorem MG.rev{a b:List α}(G:MG L D a b):MG (λx y=>L y x) D b.reverse a.reverse:=
 ⟨⟨λdx dy h=>G.od.asy dy dx h,λdx dy dz h1 h2=>G.od.tr dz dy dx h2 h1⟩,λx hx=>G.db x (List.mem_reverse.mp hx),λx hx=>G.da x (List.mem_reverse.mp hx),List.pairwise_reverse.mpr G.sb,List.pairwise_reverse.mpr G.sa⟩
theorem Done.rev{a b z:List α}(h:Done (λx y=>L y x) b.reverse a.reverse z):Done L a b z.reverse:=
 ⟨(List.reverse_perm z).trans (h.1.trans (((List.reverse_perm b).append (List.reverse_perm a)).trans List.perm_append_comm)),List.pairwise_reverse.mpr h.2⟩
end
section
variable{M:Model}{A:Around}{E:Value->Shared->Prop}{s:Shared}{κ:SortKind}{L:Keyed->Keyed->Bool}{D:Keyed->Prop}
def MH(L:Keyed->Keyed->Bool)(a b out:Array Keyed)(na nb:Nat):Prop:=na<=a.size/\nb<=b.size/\MI (λx y=>L y x) b.toList.reverse a.toList.reverse out.toList (b.size-nb) (a.size-na)
section
variable{a b out:Array Keyed}{na nb j:Nat}{x y:Keyed}
theorem MH.pa(G:MG L D a.toList b.toList)(m:MH L a b out na nb)(h1:1<=na)(h2:1<=nb)(ex:a[na-1]?=some x)(ey:b[nb-1]?=some y)(e:L x y=false):MH L a b (out.push x) (na-1) nb:=by
 obtain⟨l1,l2,mi⟩:=m;refine⟨!1,l2,?_⟩;have ex':=Y0 h1 l1 ex;have ey':=Y0 h2 l2 ey;have:=mi.pb G.rev ex' (G.rev.le_a (G.rev.db x (mem_of_getElem? ex')) ey' e);rw[Array.toList_push,show a.size-(na-1)=a.size-na+1 by omega];exact this
theorem MH.pb(G:MG L D a.toList b.toList)(m:MH L a b out na nb)(h1:1<=na)(h2:1<=nb)(ex:a[na-1]?=some x)(ey:b[nb-1]?=some y)(e:L y x=false):MH L a b (out.push y) na (nb-1):=by
 obtain⟨l1,l2,mi⟩:=m;refine⟨l1,!1,?_⟩;have ex':=Y0 h1 l1 ex;have ey':=Y0 h2 l2 ey;have:=mi.pa G.rev ey' (G.rev.le_b (G.rev.da y (mem_of_getElem? ey')) ex' e);rw[Array.toList_push,show b.size-(nb-1)=b.size-nb+1 by omega];exact this
theorem wJ(a:Array Keyed)(j n:Nat)(h:j<=n)(h':n<=a.size):(a.extract j n).reverse.toList=(a.toList.reverse.drop (a.size-n)).take (n-j):=by
 have:=Gs (l:=a.toList) h (by rw[Array.length_toList];exact h');rw[Array.length_toList]at this;rw[this,Array.toList_reverse,←Z6,show j+(n-j)=n by omega]
theorem MH.tas(G:MG L D a.toList b.toList)(m:MH L a b out na nb)(h1:j<=na)(h2:1<=nb)(ey:b[nb-1]?=some y)(e:∀i z,j<=i->i<na->a[i]?=some z->L z y=false):MH L a b (out++(a.extract j na).reverse) j nb:=by
 obtain⟨l1,l2,mi⟩:=m;refine⟨!1,l2,?_⟩;have ey':=Y0 h2 l2 ey;have:=mi.pbs G.rev ey' (na-j) (by rw[length_reverse,Array.length_toList];omega) λi z hi hz=>by
  rw[getElem?_reverse (by rw[Array.length_toList];omega),Array.length_toList,Array.getElem?_toList]at hz;exact e _ z (!1) (!1) hz
 rw[Array.toList_append,wJ a j na h1 l1,show a.size-j=a.size-na+(na-j) by omega];exact this
theorem MH.tbs(G:MG L D a.toList b.toList)(m:MH L a b out na nb)(h1:1<=na)(h2:j<=nb)(ex:a[na-1]?=some x)(e:∀i z,j<=i->i<nb->b[i]?=some z->L z x=false):MH L a b (out++(b.extract j nb).reverse) na j:=by
 obtain⟨l1,l2,mi⟩:=m;refine⟨l1,!1,?_⟩;have ex':=Y0 h1 l1 ex;have:=mi.pas G.rev ex' (nb-j) (by rw[length_reverse,Array.length_toList];omega) λi z hi hz=>by
  rw[getElem?_reverse (by rw[Array.length_toList];omega),Array.length_toList,Array.getElem?_toList]at hz;exact e _ z (!1) (!1) hz
 rw[Array.toList_append,wJ b j nb h2 l2,show b.size-j=b.size-nb+(nb-j) by omega];exact this
theorem gZ(a:Array Keyed)(n:Nat):(a.extract 0 n).toList=a.toList.take n:=by
 rw[show n=0+n by omega,Z6,drop_zero,Nat.zero_add]
theorem hJ{a:Array Keyed}{n:Nat}(h:n<=a.size):(a.toList.reverse.drop (a.size-n)).reverse=a.toList.take n:=by
 have:=wI (l:=a.toList) (m:=n) (by rw[Array.length_toList];exact h);rw[Array.length_toList]at this;rw[this,reverse_reverse]
theorem MH.done(G:MG L D a.toList b.toList)(m:MH L a b out na nb)(h:na=0∨nb=0):Done L a.toList b.toList (a.extract 0 na++b.extract 0 nb++out.reverse).toList:=by
 obtain⟨l1,l2,mi⟩:=m;have d:Done (λx y=>L y x) b.toList.reverse a.toList.reverse (out.toList++b.toList.reverse.drop (b.size-nb)++a.toList.reverse.drop (a.size-na)):=by
  rcases h with h|h
  ·exact mi.fb G.rev (by rw[length_reverse,Array.length_toList];omega)
  ·exact mi.fa G.rev (by rw[length_reverse,Array.length_toList];omega)
 have:=d.rev;rw[reverse_append,reverse_append,hJ l1,hJ l2]at this;rw[Array.toList_append,Array.toList_append,Array.toList_reverse,gZ,gZ,append_assoc];exact this
theorem MH.first(G:MG L D a.toList b.toList)(m:MH L a b out na nb)(h:nb=1)(hf:∀y,b[0]?=some y->∀x∈a.toList,L x y=false):Done L a.toList b.toList (b.extract 0 nb++a.extract 0 na++out.reverse).toList:=by
 obtain⟨l1,l2,mi⟩:=m;subst h;obtain⟨y,ey,_,_⟩:=L5 (a:=b) (i:=0) (!1);have:=(mi.fl G.rev (x:=y) (by rw[length_reverse,Array.length_toList];omega) (Y0 (le_refl 1) l2 ey) λz hz=>hf y ey z (List.mem_reverse.mp hz)).rev;rw[reverse_append,reverse_append,hJ l1,hJ l2]at this;rw[Array.toList_append,Array.toList_append,Array.toList_reverse,gZ,gZ,append_assoc];exact this
end
theorem Gu(T:Lts M A E s κ L D){a b:Array Keyed}{st:SortSt}{Q:Array Keyed->SortSt->Prop}(G:MG L D a.toList b.toList)(ha:0<a.size)(hb:0<b.size)
  (hfst:∀y,b[0]?=some y->∀x∈a.toList,L x y=false) (hlst:∀x,a[a.size-1]?=some x->∀y∈b.toList,L x y=false) (hk:kindOf st=κ)
  (q:∀(z:Array Keyed)(st':SortSt),Done L a.toList b.toList z.toList->SE st st'->Q z st'):wpS M A E s (wH a b) Q st:=by
 unfold wH
 walk_at"un_hi"
 refine wpS_bind (wpS_lift (wpAny_rule ⟨rfl,?_⟩));dsimp only;obtain⟨a0,ea0,ea0',ma0⟩:=L5 (a:=a) (i:=a.size-1) (!1);refine wpS_bind (E4 ea0 ?_);have I0:MH L a b #[a0] (a.size-1) b.size:=by
  refine⟨!1,le_refl _,?_⟩;have m0:MI (λx y=>L y x) b.toList.reverse a.toList.reverse [] 0 0:=⟨!2,.nil,λx hx=>absurd hx (!2),λx hx=>absurd hx (!2)⟩;have e0:a.toList.reverse[0]?=some a0:=by
   have:=Y0 (a:=a) (n:=a.size) (!1) (le_refl _) ea0;rw[Nat.sub_self]at this;exact this
  have:=m0.pb G.rev e0 λx hx=>hlst a0 ea0 x (List.mem_reverse.mp (List.mem_of_mem_drop hx))
  rw[Nat.sub_self,show a.size-(a.size-1)=0+1 by omega];exact this
 by_cases h1:(a.size-1==0)=true
 ·rw[if_pos h1]
  exact wpS_pure (q _ _ (I0.done G (.inl (by simpa using h1))) (SE.refl st))
 rw[if_neg h1];have h1':1<=a.size-1:=by
  have:¬a.size-1=0:=by simpa using h1
  omega
 by_cases h2:(b.size==1)=true
 ·rw[if_pos h2]
  exact wpS_pure (q _ _ (I0.first G (by simpa using h2) hfst) (SE.refl st))
 rw[if_neg h2];have h2':2<=b.size:=by
  have:¬b.size=1:=by simpa using h2
  omega
 refine wpS_bind (wpS_get ?_);refine wpS_bind (wpS_mono (wpS_forRange (I:=λi c st'=>SE st st'/\∃na nb out mg,c=(none,na,nb,out,mg)/\MH L a b out na nb/\1<=na/\2<=nb/\i+1+na+nb<=a.size+b.size)
   (Q:=λc st'=>SE st st'/\∃z r,c=(some z,r)/\Done L a.toList b.toList z.toList) ?step ?fin ⟨SE.refl st,_,_,_,_,rfl,I0,h1',h2',!1⟩) ?post)
 case fin=>
  rintro c st' ⟨_,na,nb,out,mg,_,_,e1,e2,e3⟩;omega
 case post=>
  rintro c st' ⟨se,z,r,rfl,dn⟩;exact wpS_pure (q z st' dn se)
 case step=>
  rintro i c st1 _ hi ⟨se1,na,nb,out,mg,rfl,mi,la,lb,li⟩;dsimp only;refine wpS_bind (wpS_mono (wpS_forRange (I:=λj c st'=>SE st st'/\∃na nb out ac bc,c=(none,na,nb,out,ac,bc)/\MH L a b out na nb/\1<=na/\2<=nb/\i+1+na+nb<=a.size+b.size)
   (Q:=λc st'=>SE st st'/\((∃z r,c=(some z,r)/\Done L a.toList b.toList z.toList)∨∃na nb out ac bc,c=(none,na,nb,out,ac,bc)/\MH L a b out na nb/\1<=na/\2<=nb/\i+1+na+nb<=a.size+b.size)) ?step1 ?fin1 ⟨se1,na,nb,out,0,0,rfl,mi,la,lb,li⟩) ?post1)
  case fin1=>exact λc st' h=>⟨h.1,.inr h.2⟩
  case step1=>
   rintro j c st2 _ hj ⟨se2,na,nb,out,ac,bc,rfl,mi,la,lb,li⟩;dsimp only;have n1:=mi.1;have n2:=mi.2.1;obtain⟨y,ey,ey',my⟩:=L5 (a:=b) (i:=nb-1) (!1);obtain⟨x,ex,ex',mx⟩:=L5 (a:=a) (i:=na-1) (!1);refine wpS_bind (E4 ey (wpS_bind (E4 ex (wpS_bind (T.lt (G.db y my) (G.da x mx) (se2.k.trans hk) ?_)))));dsimp only;cases z:L y x with
   |true=>
    rw[if_pos rfl];refine wpS_bind (E4 ex ?_);have mi':=mi.pa G la (!1) ex ey (T.asy (G.db y my) (G.da x mx) z);by_cases e:(na-1==0)=true
    ·rw[if_pos e]
     exact wpS_pure ⟨se2,.inl ⟨_,_,rfl,mi'.done G (.inl (by simpa using e))⟩⟩
    ·rw[if_neg e]
     have e':¬na-1=0:=by simpa using e
     by_cases e2:ac+1 ≥ mg
     ·rw[if_pos e2]
      exact wpS_pure ⟨se2,.inr ⟨_,_,_,_,_,rfl,mi',!1,lb,!1⟩⟩
     ·rw[if_neg e2]
      exact wpS_pure ⟨se2,_,_,_,_,_,rfl,mi',!1,lb,!1⟩
   |false=>
    rw[if_neg (!2)];refine wpS_bind (E4 ey ?_);have mi':=mi.pb G la (!1) ex ey z;by_cases e:(nb-1==1)=true
    ·rw[if_pos e]
     exact wpS_pure ⟨se2,.inl ⟨_,_,rfl,mi'.first G (by simpa using e) hfst⟩⟩
    ·rw[if_neg e]
     have e':¬nb-1=1:=by simpa using e
     by_cases e2:bc+1 ≥ mg
     ·rw[if_pos e2]
      exact wpS_pure ⟨se2,.inr ⟨_,_,_,_,_,rfl,mi',la,!1,!1⟩⟩
     ·rw[if_neg e2]
      exact wpS_pure ⟨se2,_,_,_,_,_,rfl,mi',la,!1,!1⟩
  case post1=>
   rintro c st2 ⟨se2,⟨z,r,rfl,dn⟩|⟨na,nb,out,ac,bc,rfl,mi,la,lb,li⟩⟩
   ·exact wpS_pure ⟨se2,z,_,rfl,dn⟩
   dsimp only;refine wpS_bind (wpS_lift (wpAny_rule ⟨rfl,?_⟩));refine wpS_bind (wpS_mono (wpS_forRange (I:=λj c st'=>SE st st'/\∃na nb out mg ac bc,c=(none,na,nb,out,mg,ac,bc)/\MH L a b out na nb/\1<=na/\2<=nb/\i+1+j+na+nb<=a.size+b.size)
    (Q:=λc st'=>SE st st'/\((∃z r,c=(some z,r)/\Done L a.toList b.toList z.toList)∨∃na nb out mg ac bc,c=(none,na,nb,out,mg,ac,bc)/\MH L a b out na nb/\1<=na/\2<=nb/\i+2+na+nb<=a.size+b.size)) ?step2 ?fin2 ⟨se2,na,nb,out,_,_,_,rfl,mi,la,lb,li⟩) ?post2)
   case fin2=>
    rintro c st' ⟨h,na,nb,out,mg,ac,bc,rfl,h1,h2,h3,h4⟩;exact⟨h,.inr ⟨na,nb,out,mg,ac,bc,rfl,h1,h2,h3,!1⟩⟩
   case post2=>
    rintro c st3 ⟨se3,⟨z,r,rfl,dn⟩|⟨na,nb,out,mg,ac,bc,rfl,mi,la,lb,li⟩⟩
    ·exact wpS_pure ⟨se3,z,_,rfl,dn⟩
    dsimp only;refine wpS_bind (gY se3 λst4 se4=>wpS_pure ⟨se4,_,_,_,_,rfl,mi,la,lb,!1⟩)
   case step2=>
    rintro j c st3 _ hj ⟨se3,na,nb,out,mg,ac,bc,rfl,mi,la,lb,li⟩;dsimp only;have n1:=mi.1;have n2:=mi.2.1;obtain⟨y,ey,ey',my⟩:=L5 (a:=b) (i:=nb-1) (!1);by_cases hmg:mg>1
    all_goals first|rw[if_pos hmg]|rw[if_neg hmg]
    all_goals
     refine wpS_bind (gY se3 λst4 se4=>wpS_bind (E4 ey (wpS_bind (X9 T (G.sa.sublist ((List.take_sublist _ _).trans (List.drop_sublist _ _))) (λx hx=>G.da x (List.mem_of_mem_drop (mem_of_mem_take hx))) (G.db y my) (se4.k.trans hk) (!1) (!1) λk hkn hk1 hk2=>?_))));dsimp only;have mi2:MH L a b (out++(a.extract k na).reverse) k nb:=mi.tas G hkn (!1) ey λi z h1 h2 hz=>T.asy (G.db y my) (G.da z (mem_of_getElem? (by rw[Array.getElem?_toList];exact hz))) (X8.mp (hk2 i z h1 h2 (by rw[Nat.zero_add];exact hz)))
     have go:∀{o2:Array Keyed}{i2:Nat},MH L a b o2 i2 nb->i2=k->1<=i2->∃x,a[i2-1]?=some x/\x∈a.toList/\MH L a b (o2.push y) i2 (nb-1):=λ{o2 i2} m e l=>by
      have:=m.1;obtain⟨x,ex,ex',mx⟩:=L5 (a:=a) (i:=i2-1) (!1);exact⟨x,ex,mx,m.pb G l (!1) ex ey (X8.mp (hk1 (i2-1) x (!1) (by rw[Nat.zero_add];exact ex)))⟩
     by_cases hk0:na-k>0
     ·rw[if_pos hk0]
      by_cases e1:(k==0)=true
      ·rw[if_pos e1]
       exact wpS_pure ⟨se4,.inl ⟨_,_,rfl,mi2.done G (.inl (by simpa using e1))⟩⟩
      rw[if_neg e1];have e1':¬k=0:=by simpa using e1
      obtain⟨x,ex,mx,mi3⟩:=go mi2 rfl (!1);refine wpS_bind (E4 ey ?_);by_cases f1:(nb-1==1)=true
      ·rw[if_pos f1]
       exact wpS_pure ⟨se4,.inl ⟨_,_,rfl,mi3.first G (by simpa using f1) hfst⟩⟩
      rw[if_neg f1];have f1':¬nb-1=1:=by simpa using f1
      refine wpS_bind (E4 ex (wpS_bind (X9 T (G.sb.sublist ((List.take_sublist _ _).trans (List.drop_sublist _ _))) (λx hx=>G.db x (List.mem_of_mem_drop (mem_of_mem_take hx))) (G.da x mx) (se4.k.trans hk) (!1) (!1) λk2 hkn2 hj1 hj2=>?_)));dsimp only;have mi4:MH L a b ((out++(a.extract k na).reverse).push y++(b.extract k2 (nb-1)).reverse) (k) k2:=mi3.tbs G (!1) hkn2 ex λi z h1 h2 hz=>hj2 i z h1 h2 (by rw[Nat.zero_add];exact hz)
      have go2:∀{o3:Array Keyed}{i3:Nat},MH L a b o3 (k) i3->i3=k2->1<=i3->MH L a b (o3.push x) (k-1) i3:=λ{o3 i3} m e l=>by
       have:=m.2.1;obtain⟨z,ez,ez',mz⟩:=L5 (a:=b) (i:=i3-1) (!1);exact m.pa G (!1) l ex ez (T.asy (G.db z mz) (G.da x mx) (hj1 (i3-1) z (!1) (by rw[Nat.zero_add];exact ez)))
      by_cases hk3:nb-1-k2>0
      ·rw[if_pos hk3]
       by_cases f2:(k2==1)=true
       ·rw[if_pos f2]
        exact wpS_pure ⟨se4,.inl ⟨_,_,rfl,mi4.first G (by simpa using f2) hfst⟩⟩
       rw[if_neg f2];by_cases f3:(k2==0)=true
       ·rw[if_pos f3]
        exact wpS_pure ⟨se4,.inl ⟨_,_,rfl,mi4.done G (.inr (by simpa using f3))⟩⟩
       rw[if_neg f3];have f2':¬k2=1:=by simpa using f2
       have f3':¬k2=0:=by simpa using f3
       have mi5:=go2 mi4 rfl (!1);refine wpS_bind (E4 ex ?_);by_cases g1:(k-1==0)=true
       ·rw[if_pos g1]
        exact wpS_pure ⟨se4,.inl ⟨_,_,rfl,mi5.done G (.inl (by simpa using g1))⟩⟩
       rw[if_neg g1];have g1':¬k-1=0:=by simpa using g1
       by_cases g2:(decide (na-k<7)&&decide (nb-1-k2<7))=true
       ·rw[if_pos g2]
        exact wpS_pure ⟨se4,.inr ⟨_,_,_,_,_,_,rfl,mi5,!1,!1,!1⟩⟩
       ·rw[if_neg g2]
        exact wpS_pure ⟨se4,_,_,_,_,_,_,rfl,mi5,!1,!1,!1⟩
      ·rw[if_neg hk3]
       have mi5:=go2 mi3 (!1) (!1);refine wpS_bind (E4 ex ?_);by_cases g1:(k-1==0)=true
       ·rw[if_pos g1]
        exact wpS_pure ⟨se4,.inl ⟨_,_,rfl,mi5.done G (.inl (by simpa using g1))⟩⟩
       rw[if_neg g1];have g1':¬k-1=0:=by simpa using g1
       by_cases g2:(decide (na-k<7)&&decide (nb-1-k2<7))=true
       ·rw[if_pos g2]
        exact wpS_pure ⟨se4,.inr ⟨_,_,_,_,_,_,rfl,mi5,!1,!1,!1⟩⟩
       ·rw[if_neg g2]
        exact wpS_pure ⟨se4,_,_,_,_,_,_,rfl,mi5,!1,!1,!1⟩
     ·rw[if_neg hk0]
      obtain⟨x,ex,mx,mi3⟩:=go mi (!1) la;refine wpS_bind (E4 ey ?_);by_cases f1:(nb-1==1)=true
      ·rw[if_pos f1]
       exact wpS_pure ⟨se4,.inl ⟨_,_,rfl,mi3.first G (by simpa using f1) hfst⟩⟩
      rw[if_neg f1];have f1':¬nb-1=1:=by simpa using f1
      refine wpS_bind (E4 ex (wpS_bind (X9 T (G.sb.sublist ((List.take_sublist _ _).trans (List.drop_sublist _ _))) (λx hx=>G.db x (List.mem_of_mem_drop (mem_of_mem_take hx))) (G.da x mx) (se4.k.trans hk) (!1) (!1) λk2 hkn2 hj1 hj2=>?_)));dsimp only;have mi4:MH L a b ((out).push y++(b.extract k2 (nb-1)).reverse) (na) k2:=mi3.tbs G (!1) hkn2 ex λi z h1 h2 hz=>hj2 i z h1 h2 (by rw[Nat.zero_add];exact hz)
      have go2:∀{o3:Array Keyed}{i3:Nat},MH L a b o3 (na) i3->i3=k2->1<=i3->MH L a b (o3.push x) (na-1) i3:=λ{o3 i3} m e l=>by
       have:=m.2.1;obtain⟨z,ez,ez',mz⟩:=L5 (a:=b) (i:=i3-1) (!1);exact m.pa G (!1) l ex ez (T.asy (G.db z mz) (G.da x mx) (hj1 (i3-1) z (!1) (by rw[Nat.zero_add];exact ez)))
      by_cases hk3:nb-1-k2>0
      ·rw[if_pos hk3]
       by_cases f2:(k2==1)=true
       ·rw[if_pos f2]
        exact wpS_pure ⟨se4,.inl ⟨_,_,rfl,mi4.first G (by simpa using f2) hfst⟩⟩
       rw[if_neg f2];by_cases f3:(k2==0)=true
       ·rw[if_pos f3]
        exact wpS_pure ⟨se4,.inl ⟨_,_,rfl,mi4.done G (.inr (by simpa using f3))⟩⟩
       rw[if_neg f3];have f2':¬k2=1:=by simpa using f2
       have f3':¬k2=0:=by simpa using f3
       have mi5:=go2 mi4 rfl (!1);refine wpS_bind (E4 ex ?_);by_cases g1:(na-1==0)=true
       ·rw[if_pos g1]
        exact wpS_pure ⟨se4,.inl ⟨_,_,rfl,mi5.done G (.inl (by simpa using g1))⟩⟩
       rw[if_neg g1];have g1':¬na-1=0:=by simpa using g1
       by_cases g2:(decide (na-k<7)&&decide (nb-1-k2<7))=true
       ·rw[if_pos g2]
        exact wpS_pure ⟨se4,.inr ⟨_,_,_,_,_,_,rfl,mi5,!1,!1,!1⟩⟩
       ·rw[if_neg g2]
        exact wpS_pure ⟨se4,_,_,_,_,_,_,rfl,mi5,!1,!1,!1⟩
      ·rw[if_neg hk3]
       have mi5:=go2 mi3 (!1) (!1);refine wpS_bind (E4 ex ?_);by_cases g1:(na-1==0)=true
       ·rw[if_pos g1]
        exact wpS_pure ⟨se4,.inl ⟨_,_,rfl,mi5.done G (.inl (by simpa using g1))⟩⟩
       rw[if_neg g1];have g1':¬na-1=0:=by simpa using g1
       by_cases g2:(decide (na-k<7)&&decide (nb-1-k2<7))=true
       ·rw[if_pos g2]
        exact wpS_pure ⟨se4,.inr ⟨_,_,_,_,_,_,rfl,mi5,!1,!1,!1⟩⟩
       ·rw[if_neg g2]
        exact wpS_pure ⟨se4,_,_,_,_,_,_,rfl,mi5,!1,!1,!1⟩
end
end Rg
namespace Rg
open PySem PySem.W PyProof.Rows
local macro_rules|`(tactic| walk_at"un_at")=>do
 let i:=Lean.mkIdent (Lean.mkPrivateNameCore `PySem.Builtin.List.W1All `PySem.Builtin.mergeAt)
 `(tactic| unfold $i:ident)
section
variable{α:Type}
theorem wK(sa:Nat):∀(zs:List α)(m:Nat)(a:Array α),sa+m+zs.length<=a.size->
  (List.foldl (λ(a:Array α) (x:α×Nat)=>a.setIfInBounds (sa+x.2) x.1) a (zs.zipIdx m)).toList=a.toList.take (sa+m)++zs++a.toList.drop (sa+m+zs.length)
 |[],m,a,_=>by
  rw[List.zipIdx_nil,List.foldl_nil,append_nil,List.length_nil,Nat.add_zero,List.take_append_drop]
 |p::r,m,a,h=>by
  rw[zipIdx_cons,List.foldl_cons];rw[length_cons]at h;have ih:=wK sa r (m+1) (a.setIfInBounds (sa+m) p) (by rw[Array.size_setIfInBounds];omega);show(List.foldl _ (a.setIfInBounds (sa+m) p) (r.zipIdx (m+1))).toList=_;rw[ih,Array.toList_setIfInBounds,length_cons];have hl:sa+m<a.toList.length:=by rw[Array.length_toList];omega
  have e1:(a.toList.set (sa+m) p).take (sa+(m+1))=a.toList.take (sa+m)++[p]:=by
   rw[show sa+(m+1)=sa+m+1 by omega,take_succ,List.take_set_of_le (le_refl _),getElem?_set_self hl];rfl
  have e2:(a.toList.set (sa+m) p).drop (sa+(m+1)+r.length)=a.toList.drop (sa+m+(r.length+1)):=by
   rw[List.drop_set_of_lt (!1),show sa+(m+1)+r.length=sa+m+(r.length+1) by omega]
  rw[e1,e2];simp only[append_assoc,List.singleton_append]
end
section
variable{M:Model}{A:Around}{E:Value->Shared->Prop}{s:Shared}{κ:SortKind}{L:Keyed->Keyed->Bool}{D:Keyed->Prop}
theorem Gv{σ:Type}{M:Model}{st st':σ}{Q:PUnit->σ->Prop}(h:Q ⟨⟩ st'):wpS M A E s (set st':StateT σ Sem PUnit) Q st:=by
 unfold wpS;rw[StateT.run_set];exact wpAny_pure ⟨rfl,h⟩
theorem Gw(T:Lts M A E s κ L D){a:Array Keyed}{n1 n2 pw p2 g:Nat}{Q:Bool->SortSt->Prop}(hsz:a.size=n1+n2)(hn1:0<n1)(hn2:0<n2)(d:∀x∈a.toList,D x)(r1:K7 L (a.toList.take n1))(r2:K7 L (a.toList.drop n1))
  (q:∀(a':Array Keyed)(g':Nat),a'.toList.Perm a.toList->K7 L a'.toList->Q true (SortSt.mk' κ a' #[(0,n1+n2,pw)] g' none)):wpS M A E s (mergeAt' 0) Q (SortSt.mk' κ a #[(0,n1,pw),(n1,n2,p2)] g none):=by
 unfold mergeAt'
 walk_at"un_at"
 refine wpS_bind (wpS_get ?_);dsimp only[SortSt.mk'];have e0:(#[(0,n1,pw),(n1,n2,p2)]:Array (Nat×Nat×Nat))[0]?=some (0,n1,pw):=rfl;have e1:(#[(0,n1,pw),(n1,n2,p2)]:Array (Nat×Nat×Nat))[0+1]?=some (n1,n2,p2):=rfl;rw[e0,e1];dsimp only;refine wpS_bind (Gv ?_);have ep:((#[(0,n1,pw),(n1,n2,p2)]:Array (Nat×Nat×Nat)).setIfInBounds 0 (0,n1+n2,pw)).eraseIdxIfInBounds (0+1)=#[(0,n1+n2,pw)]:=by
  simp[Array.eraseIdxIfInBounds,Array.eraseIdx]
 rw[ep];have o:=T.od;obtain⟨b0,eb,eb',mb⟩:=L5 (a:=a) (i:=n1) (!1);have sub1:∀{i k:Nat},i+k<=n1->((a.toList.drop i).take k).Sublist (a.toList.take n1):=λ{i k} h=>by
  have:(a.toList.drop i).take k=((a.toList.take n1).drop i).take k:=by
   rw[List.drop_take,List.take_take,min_eq_left (!1)]
  rw[this];exact(List.take_sublist _ _).trans (List.drop_sublist _ _)
 refine wpS_bind (E4 eb (wpS_bind (X9 T (r1.sublist (sub1 (!1))) (λx hx=>d x (List.mem_of_mem_drop (mem_of_mem_take hx))) (d b0 mb) rfl (!1) hn1 λk hkn hk1 hk2=>?_)));dsimp only;have hP:∀x∈a.toList.take k,L b0 x=false:=λx hx=>by
  obtain⟨i,hi,e⟩:=getElem_of_mem hx;rw[length_take]at hi;have ex:a[0+i]?=some x:=by
   rw[Nat.zero_add,←Array.getElem?_toList,←e,List.getElem_take];exact getElem?_eq_getElem (!1)
  exact X8.mp (hk1 i x (!1) ex)
 have hB:∀y∈a.toList.drop n1,L y b0=false:=λy hy=>by
  rw[R5 eb']at hy;rcases mem_cons.mp hy with rfl|hy
  ·cases z:L y y with
   |false=>rfl
   |true=>rw[o.asy (d y mb) (d y mb) z]at z;cases z
  ·have:=r2
   rw[R5 eb']at this;exact(List.pairwise_cons.mp this).1 y hy
 have hPB:∀x∈a.toList.take k,∀y∈a.toList.drop n1,L y x=false:=λx hx y hy=>o.tr (d x (mem_of_mem_take hx)) (d b0 mb) (d y (List.mem_of_mem_drop hy)) (hP x hx) (hB y hy)
 by_cases h0:(n1-k==0)=true
 ·rw[if_pos h0]
  have h0':n1-k=0:=by simpa using h0
  have hkk:k=n1:=by omega
  refine wpS_pure (q a _ (List.Perm.refl _) ?_);rw[←List.take_append_drop n1 a.toList];rw[hkk]at hPB;exact List.pairwise_append.mpr ⟨r1,r2,hPB⟩
 rw[if_neg h0];have h0':¬n1-k=0:=by simpa using h0
 obtain⟨al,ea,ea',ma⟩:=L5 (a:=a) (i:=0+k+(n1-k)-1) (!1);have eal:a.toList[n1-1]?=some al:=by rw[show n1-1=0+k+(n1-k)-1 by omega];exact ea'
 refine wpS_bind (E4 ea (wpS_bind (X9 T (r2.sublist (List.take_sublist _ _)) (λx hx=>d x (List.mem_of_mem_drop (mem_of_mem_take hx))) (d al ma) rfl (!1) (!1) λnb hbn hb1 hb2=>?_)));dsimp only;have hX:∀x∈a.toList.take n1,L al x=false:=λx hx=>by
  obtain⟨i,hi,e⟩:=getElem_of_mem hx;rw[length_take]at hi;have ex:(a.toList.take n1)[i]?=some x:=by rw[getElem?_eq_getElem (by rw[length_take];exact hi),e]
  have ez:(a.toList.take n1)[n1-1]?=some al:=by rw[getElem?_take,if_pos (!1)];exact eal
  rcases lt_or_ge i (n1-1)with z|z
  ·exact mI r1 z ex ez
  ·have:i=n1-1:=by omega
   subst this;rw[ez]at ex;cases ex;cases w:L al al with
   |false=>rfl
   |true=>rw[o.asy (d al ma) (d al ma) w]at w;cases w
 have hR:∀y∈a.toList.drop (n1+nb),L y al=false:=λy hy=>by
  obtain⟨i,hi,e⟩:=getElem_of_mem hy;rw[length_drop,Array.length_toList]at hi;have ey:a[n1+(nb+i)]?=some y:=by
   rw[←Array.getElem?_toList,←e,List.getElem_drop,←Nat.add_assoc];exact getElem?_eq_getElem (by rw[Array.length_toList];omega)
  exact hb2 (nb+i) y (!1) (!1) ey
 have hXR:∀x∈a.toList.take n1,∀y∈a.toList.drop (n1+nb),L y x=false:=λx hx y hy=>o.tr (d x (mem_of_mem_take hx)) (d al ma) (d y (List.mem_of_mem_drop hy)) (hX x hx) (hR y hy)
 by_cases hb0:(nb==0)=true
 ·rw[if_pos hb0]
  have hb0':nb=0:=by simpa using hb0
  subst hb0';refine wpS_pure (q a _ (List.Perm.refl _) ?_);rw[←List.take_append_drop n1 a.toList];exact List.pairwise_append.mpr ⟨r1,r2,hXR⟩
 rw[if_neg hb0];have hb0':¬nb=0:=by simpa using hb0
 have ex1:(a.extract (0+k) n1).toList=(a.toList.drop k).take (n1-k):=by
  have:=Z6 a k (n1-k);rw[show k+(n1-k)=n1 by omega]at this;rw[Nat.zero_add];exact this
 have ey1:(a.extract n1 (n1+nb)).toList=(a.toList.drop n1).take nb:=Z6 a n1 nb;have G:MG L D (a.extract (0+k) n1).toList (a.extract n1 (n1+nb)).toList:=by
  rw[ex1,ey1];exact⟨o,λx hx=>d x (List.mem_of_mem_drop (mem_of_mem_take hx)),λx hx=>d x (List.mem_of_mem_drop (mem_of_mem_take hx)),r1.sublist (sub1 (!1)),r2.sublist (List.take_sublist _ _)⟩
 have sx:(a.extract (0+k) n1).size=n1-k:=by rw[Array.size_extract];omega
 have sy:(a.extract n1 (n1+nb)).size=nb:=by rw[Array.size_extract];omega
 have hf:∀y,(a.extract n1 (n1+nb))[0]?=some y->∀x∈(a.extract (0+k) n1).toList,L x y=false:=λy hy x hx=>by
  rw[←Array.getElem?_toList,ey1,getElem?_take,if_pos (!1),List.getElem?_drop,Nat.add_zero,eb']at hy;cases hy;rw[ex1]at hx;obtain⟨i,hi,e⟩:=getElem_of_mem hx;rw[length_take,length_drop,Array.length_toList]at hi;have ex:a[0+(k+i)]?=some x:=by
   rw[Nat.zero_add,←Array.getElem?_toList,←e,List.getElem_take,List.getElem_drop];exact getElem?_eq_getElem (by rw[Array.length_toList];omega)
  exact o.asy (d b0 mb) (d x (List.mem_of_mem_drop (mem_of_mem_take hx))) (X8.mp (hk2 (k+i) x (!1) (!1) ex))
 have hl:∀x,(a.extract (0+k) n1)[(a.extract (0+k) n1).size-1]?=some x->∀y∈(a.extract n1 (n1+nb)).toList,L x y=false:=λx hx y hy=>by
  rw[sx,←Array.getElem?_toList,ex1,getElem?_take,if_pos (!1),List.getElem?_drop,show k+(n1-k-1)=n1-1 by omega,eal]at hx;cases hx;rw[ey1]at hy;obtain⟨i,hi,e⟩:=getElem_of_mem hy;rw[length_take,length_drop,Array.length_toList]at hi;have ey:a[n1+i]?=some y:=by
   rw[←Array.getElem?_toList,←e,List.getElem_take,List.getElem_drop];exact getElem?_eq_getElem (by rw[Array.length_toList];omega)
  exact o.asy (d y (List.mem_of_mem_drop (mem_of_mem_take hy))) (d al ma) (hb1 i y (!1) ey)
 have fin:∀(z:Array Keyed)(st':SortSt),Done L (a.extract (0+k) n1).toList (a.extract n1 (n1+nb)).toList z.toList->SE (SortSt.mk' κ a #[(0,n1+n2,pw)] g none) st'->
   (arrOf st'=a/\((List.foldl (λ(a:Array Keyed) (x:Keyed×Nat)=>a.setIfInBounds (0+k+x.2) x.1) (arrOf st') z.toList.zipIdx).toList.Perm a.toList/\K7 L (List.foldl (λ(a:Array Keyed) (x:Keyed×Nat)=>a.setIfInBounds (0+k+x.2) x.1) (arrOf st') z.toList.zipIdx).toList)):=by
  intro z st' dn se;have ear:arrOf st'=a:=se.a;rw[ear];refine⟨rfl,?_⟩;obtain⟨pm,rz⟩:=dn;rw[ex1,ey1]at pm;have zl:z.toList.length=n1-k+nb:=by
   rw[pm.length_eq,length_append,length_take,length_drop,length_take,length_drop,Array.length_toList];omega
  rw[wK (0+k) z.toList 0 a (!1),zl,show 0+k+0=k by omega,show k+(n1-k+nb)=n1+nb by omega];have el:a.toList=a.toList.take k++((a.toList.drop k).take (n1-k)++(a.toList.drop n1).take nb)++a.toList.drop (n1+nb):=by
   have e1:a.toList.drop n1=(a.toList.drop n1).take nb++a.toList.drop (n1+nb):=by
    conv=>lhs;rw[←List.take_append_drop nb (a.toList.drop n1)]
    rw[drop_drop]
   have e2:a.toList.drop k=(a.toList.drop k).take (n1-k)++a.toList.drop n1:=by
    conv=>lhs;rw[←List.take_append_drop (n1-k) (a.toList.drop k)]
    rw[drop_drop,show k+(n1-k)=n1 by omega]
   conv=>lhs;rw[←List.take_append_drop k a.toList,e2,e1]
   simp only[append_assoc]
  refine⟨?_,?_⟩
  ·conv=>rhs;rw[el]
   exact(List.Perm.append_left _ pm).append_right _
  ·have hz:∀w∈z.toList,w∈(a.toList.drop k).take (n1-k)∨w∈(a.toList.drop n1).take nb:=λw hw=>mem_append.mp (pm.mem_iff.mp hw)
   have m1:∀{w},w∈(a.toList.drop k).take (n1-k)->w∈a.toList.take n1:=λhw=>(sub1 (!1)).mem hw
   have rP:K7 L (a.toList.take n1):=r1;have split1:a.toList.take n1=a.toList.take k++(a.toList.drop k).take (n1-k):=by
    conv=>lhs;rw[show n1=k+(n1-k) by omega,List.take_add]
   have rPX:∀x∈a.toList.take k,∀y∈(a.toList.drop k).take (n1-k),L y x=false:=by
    rw[split1]at rP;exact(List.pairwise_append.mp rP).2.2
   have mP:∀{w},w∈a.toList.take k->w∈a.toList.take n1:=λhw=>by rw[split1];exact mem_append_left _ hw
   have rBR:∀x∈(a.toList.drop n1).take nb,∀y∈a.toList.drop (n1+nb),L y x=false:=by
    have:=r2;rw[←List.take_append_drop nb (a.toList.drop n1),drop_drop]at this;exact(List.pairwise_append.mp this).2.2
   refine List.pairwise_append.mpr ⟨List.pairwise_append.mpr ⟨?_,rz,λx hx w hw=>?_⟩,?_,λx hx w hw=>?_⟩
   ·rw[split1]at rP
    exact(List.pairwise_append.mp rP).1
   ·rcases hz w hw with h|h
    ·exact rPX x hx w h
    ·exact hPB x hx w (mem_of_mem_take h)
   ·exact r2.sublist (by rw[←drop_drop];exact List.drop_sublist _ _)
   ·rcases mem_append.mp hx with hx|hx
    ·exact hXR x (mP hx) w hw
    ·rcases hz x hx with h|h
     ·exact hXR x (m1 h) w hw
     ·exact rBR x h w hw
 by_cases hle:n1-k<=nb
 ·rw[if_pos hle]
  refine wpS_bind (Gr T G (!1) (!1) hf hl rfl λz st' dn se=>?_);obtain⟨_,f1,f2⟩:=fin z st' dn se;refine wpS_bind (wpS_modify (wpS_bind (wpS_get (wpS_pure ?_))));have ef:failedOf st'=none:=se.f;have ek:kindOf st'=κ:=se.k;have epd:pendingOf st'=#[(0,n1+n2,pw)]:=se.p;show Q (failedOf st').isNone (SortSt.mk' (kindOf st') (List.foldl (λ(a:Array Keyed) (x:Keyed×Nat)=>a.setIfInBounds (0+k+x.2) x.1) (arrOf st') z.toList.zipIdx) (pendingOf st') (gallopOf st') (failedOf st'));rw[ef,ek,epd];exact q _ _ f1 f2
 ·rw[if_neg hle]
  refine wpS_bind (Gu T G (!1) (!1) hf hl rfl λz st' dn se=>?_);obtain⟨_,f1,f2⟩:=fin z st' dn se;refine wpS_bind (wpS_modify (wpS_bind (wpS_get (wpS_pure ?_))));have ef:failedOf st'=none:=se.f;have ek:kindOf st'=κ:=se.k;have epd:pendingOf st'=#[(0,n1+n2,pw)]:=se.p;show Q (failedOf st').isNone (SortSt.mk' (kindOf st') (List.foldl (λ(a:Array Keyed) (x:Keyed×Nat)=>a.setIfInBounds (0+k+x.2) x.1) (arrOf st') z.toList.zipIdx) (pendingOf st') (gallopOf st') (failedOf st'));rw[ef,ek,epd];exact q _ _ f1 f2
end
end Rg
namespace Rg
open PySem PySem.W PyProof.Rows
section
variable{α:Type}{L:α->α->Bool}{D:α->Prop}
def RiseA{α:Type}(L:α->α->Bool)(a:Array α)(lo hi:Nat):Prop:=∀i j x y,lo<=i->i<j->j<hi->a[i]?=some x->a[j]?=some y->L y x=false
def FallA{α:Type}(L:α->α->Bool)(a:Array α)(lo hi:Nat):Prop:=∀i j x y,lo<=i->i<j->j<hi->a[i]?=some x->a[j]?=some y->L y x=true
structure Gd{α:Type}(L:α->α->Bool)(D:α->Prop)(a:Array α):Prop where
 d:∀x∈a.toList,D x
 ds:a.toList.Pairwise λx y=>L x y=true∨L y x=true
structure Sg{α:Type}(a0 a:Array α)(lo:Nat):Prop where
 pm:a.toList.Perm a0.toList
 out:∀k,k<lo->a[k]?=a0[k]?
theorem Sg.refl(a:Array α)(lo:Nat):Sg a a lo:=⟨List.Perm.refl _,λ_ _=>rfl⟩
theorem Sg.trans{a b c:Array α}{lo:Nat}(h:Sg a b lo)(h':Sg b c lo):Sg a c lo:=⟨h'.pm.trans h.pm,λk hk=>(h'.out k hk).trans (h.out k hk)⟩
theorem Sg.size{a b:Array α}{lo:Nat}(h:Sg a b lo):b.size=a.size:=by
 have:=h.pm.length_eq
 rwa [Array.length_toList,Array.length_toList]at this
theorem Gd.perm{a b:Array α}(h:Gd L D a)(p:b.toList.Perm a.toList):Gd L D b:=
 ⟨λx hx=>h.d x (p.mem_iff.mp hx),(p.pairwise_iff (λh=>h.symm)).mpr h.ds⟩
theorem Gd.at{a:Array α}(h:Gd L D a){i:Nat}{x:α}(e:a[i]?=some x):D x:=h.d x (mem_of_getElem? (by rw[Array.getElem?_toList];exact e))
theorem Gd.un{a:Array α}(h:Gd L D a){i j:Nat}{x y:α}(hij:i<j)(ex:a[i]?=some x)(ey:a[j]?=some y):L x y=true∨L y x=true:=by
 rw[←Array.getElem?_toList]at ex ey;obtain⟨h1,rfl⟩:=List.getElem?_eq_some_iff.mp ex;obtain⟨h2,rfl⟩:=List.getElem?_eq_some_iff.mp ey;exact pairwise_iff_getElem.mp h.ds i j h1 h2 hij
theorem Ord.st(o:Ord L D){x y z:α}(dx:D x)(dy:D y)(dz:D z)(h1:L y x=true)(h2:L z y=true):L z x=true:=by
 cases h:L z x with
 |true=>rfl
 |false=>rw[o.tr dx dz dy h (o.asy dz dy h2)]at h1;cases h1
theorem RiseA.one{a:Array α}{lo:Nat}:RiseA L a lo (lo+1):=λi j x y h1 h2 h3=>by omega
theorem RiseA.snoc(o:Ord L D){a:Array α}(G:Gd L D a){lo n:Nat}{u v:α}(r:RiseA L a lo (lo+n))(hn:1<=n)(eu:a[lo+n-1]?=some u)(ev:a[lo+n]?=some v)(e:L v u=false):RiseA L a lo (lo+(n+1)):=by
 intro i j x y h1 h2 h3 ex ey;rcases lt_or_ge j (lo+n)with z|z
 ·exact r i j x y h1 h2 z ex ey
 ·have:j=lo+n:=by omega
  subst this;rw[ev]at ey;cases ey;rcases lt_or_ge i (lo+n-1)with w|w
  ·exact o.tr (G.at ex) (G.at eu) (G.at ev) (r i (lo+n-1) x u h1 w (!1) ex eu) e
  ·have:i=lo+n-1:=by omega
   subst this;rw[eu]at ex;cases ex;exact e
theorem FallA.snoc(o:Ord L D){a:Array α}(G:Gd L D a){lo n:Nat}{u v:α}(r:FallA L a lo (lo+n))(hn:1<=n)(eu:a[lo+n-1]?=some u)(ev:a[lo+n]?=some v)(e:L v u=true):FallA L a lo (lo+(n+1)):=by
 intro i j x y h1 h2 h3 ex ey;rcases lt_or_ge j (lo+n)with z|z
 ·exact r i j x y h1 h2 z ex ey
 ·have:j=lo+n:=by omega
  subst this;rw[ev]at ey;cases ey;rcases lt_or_ge i (lo+n-1)with w|w
  ·exact o.st (G.at ex) (G.at eu) (G.at ev) (r i (lo+n-1) x u h1 w (!1) ex eu) e
  ·have:i=lo+n-1:=by omega
   subst this;rw[eu]at ex;cases ex;exact e
theorem U1{a:Array α}{i:Nat}(h:i<a.size):∃x,a[i]?=some x:=⟨a[i],Array.getElem?_eq_getElem h⟩
theorem wL{a:Array α}{lo n:Nat}(hn:lo+n<=a.size):Sg a (mirror a lo (lo+n) ((lo+n-lo) / 2)) lo:=
 ⟨Array.perm_iff_toList_perm.mp (mirror_perm _ _ _ _),λk hk=>by rw[getElem?_mirror_all hn,if_neg (!1)]⟩
theorem wM(o:Ord L D){a:Array α}(G:Gd L D a){lo n:Nat}(hn:lo+n<=a.size)(f:FallA L a lo (lo+n)):RiseA L (mirror a lo (lo+n) ((lo+n-lo) / 2)) lo (lo+n):=by
 intro i j x y h1 h2 h3 ex ey;rw[getElem?_mirror_all hn,if_pos (!1)]at ex ey;exact o.asy (G.at ex) (G.at ey) (f _ _ y x (!1) (!1) (!1) ey ex)
end
section
variable{M:Model}{A:Around}{E:Value->Shared->Prop}{s:Shared}{κ:SortKind}{L:Keyed->Keyed->Bool}{D:Keyed->Prop}
theorem bM(T:Lts M A E s κ L D){a:Array Keyed}(G:Gd L D a){p:Array (Nat×Nat×Nat)}{g i j:Nat}{x y:Keyed}{Q:Option Bool->SortSt->Prop}(hx:a[i]?=some x)(hy:a[j]?=some y)(q:Q (some (L x y)) (SortSt.mk' κ a p g none)):wpS M A E s (ltAt' i j) Q (SortSt.mk' κ a p g none):=by
 rw[ltAt'_eq];refine wpS_bind (wpS_get ?_);exact wpS_bind (E4 hx (wpS_bind (E4 hy (T.lt (G.at hx) (G.at hy) rfl q))))
theorem Gx{a:Array Keyed}{p:Array (Nat×Nat×Nat)}{g i j:Nat}{Q:Unit->SortSt->Prop}(q:Q () (SortSt.mk' κ (mirror a i j ((j-i) / 2)) p g none)):wpS M A E s (reverseSlice' i j) Q (SortSt.mk' κ a p g none):=by
 rw[reverseSlice'_eq];exact wpS_modify q
theorem wN(T:Lts M A E s κ L D){a:Array Keyed}(G:Gd L D a){p:Array (Nat×Nat×Nat)}{g lo nrem:Nat}{Q:Option Nat->SortSt->Prop}(h1:1<=nrem)(hn:lo+nrem<=a.size)
  (q:∀(a':Array Keyed)(n:Nat),Sg a a' lo->1<=n->n<=nrem->RiseA L a' lo (lo+n)->Q (some n) (SortSt.mk' κ a' p g none)):wpS M A E s (countRun' lo nrem) Q (SortSt.mk' κ a p g none):=by
 have o:=T.od;rw[countRun'_eq];dsimp only;have asc:∀{a:Array Keyed}(G:Gd L D a)(n:Nat),lo+nrem<=a.size->1<=n->n<=nrem->RiseA L a lo (lo+n)->
   ∀{body:Nat->Option (Option Nat)×Nat->StateT SortSt Sem (ForInStep (Option (Option Nat)×Nat))}{R:Option (Option Nat)×Nat->SortSt->Prop},
   (∀x n (R':ForInStep (Option (Option Nat)×Nat)->SortSt->Prop),1<=n->n<nrem->(∀u v,a[lo+n]?=some u->a[lo+n-1]?=some v->R' (if L u v=true then .done (none,n)else .yield (none,n+1)) (SortSt.mk' κ a p g none))->wpS M A E s (body x (none,n)) R' (SortSt.mk' κ a p g none))->
   (∀n,1<=n->n<=nrem->RiseA L a lo (lo+n)->(n=nrem∨(n<nrem/\∀u v,a[lo+n]?=some u->a[lo+n-1]?=some v->L u v=true))->R (none,n) (SortSt.mk' κ a p g none))->
   wpS M A E s (forIn [n:nrem] (none,n) body) R (SortSt.mk' κ a p g none):=by
  intro a G n hsz hn1 hn2 r0 body R hb hR;refine wpS_forRange (I:=λx c st'=>st'=SortSt.mk' κ a p g none/\c=(none,x)/\n<=x/\x<=nrem/\RiseA L a lo (lo+x)) (λx c st' hx1 hx2 hI=>?_) (λc st' hI=>?_) ⟨rfl,rfl,le_refl _,hn2,r0⟩
  ·obtain⟨rfl,rfl,h3,h4,r⟩:=hI
   refine hb x x _ (!1) hx2 λu v eu ev=>?_
   cases z:L u v with
   |true=>
    rw[if_pos rfl];exact hR x (!1) h4 r (.inr ⟨hx2,λu' v' eu' ev'=>by rw[eu]at eu';rw[ev]at ev';cases eu';cases ev';exact z⟩)
   |false=>
    rw[if_neg (!2)];exact⟨rfl,rfl,!1,!1,r.snoc o G (!1) ev eu z⟩
  ·obtain⟨rfl,rfl,h3,h4,r⟩:=hI
   rw[show max n nrem=nrem by omega]at r ⊢;exact hR nrem (!1) (le_refl _) r (.inl rfl)
 refine wpS_bind (asc G 1 hn (le_refl 1) h1 RiseA.one (λx n R' hn1 hn2 hR=>?_) λn hn1 hn2 r hend=>?_)
 ·have e2:=U1 (a:=a) (i:=lo+n) (!1)
  have e3:=U1 (a:=a) (i:=lo+n-1) (!1);obtain⟨u,eu⟩:=e2;obtain⟨v,ev⟩:=e3;refine wpS_bind (bM T G eu ev ?_);have:=hR u v eu ev;dsimp only;cases z:L u v<;>rw[z]at this<;>exact wpS_pure this
 ·dsimp only
  by_cases hnn:(n==nrem)=true
  ·rw[if_pos hnn]
   exact wpS_pure (q a n (Sg.refl a lo) hn1 hn2 r)
  rw[if_neg hnn];have hnn':¬n=nrem:=by simpa using hnn
  obtain⟨hlt,hbr⟩:n<nrem/\∀u v,a[lo+n]?=some u->a[lo+n-1]?=some v->L u v=true:=by
   rcases hend with z|z
   ·exact absurd z hnn'
   ·exact z
  by_cases hgt:n>1
  ·rw[if_pos hgt]
   obtain⟨u,eu⟩:=U1 (a:=a) (i:=lo) (!1);obtain⟨v,ev⟩:=U1 (a:=a) (i:=lo+n-1) (!1);refine wpS_bind (bM T G eu ev ?_);have rs:L u v=true:=by
    rcases G.un (i:=lo) (j:=lo+n-1) (!1) eu ev with z|z
    ·exact z
    ·rw[r lo (lo+n-1) u v (le_refl _) (!1) (!1) eu ev]at z;cases z
   dsimp only;rw[rs,if_pos rfl];exact wpS_pure (q a n (Sg.refl a lo) hn1 hn2 r)
  ·rw[if_neg hgt]
   have n1:n=1:=by omega
   subst n1;refine wpS_bind (wpS_lift (wpAny_rule ⟨rfl,?_⟩));have f2:FallA L a lo (lo+(1+1)):=by
    intro i j x y h1 h2 h3 ex ey;have hi:i=lo:=by omega
    have hj:j=lo+1:=by omega
    subst hi hj;exact hbr y x ey ex
   refine wpS_bind (wpS_mono (wpS_forRange (I:=λx c st'=>st'=SortSt.mk' κ a p g none/\c=(none,x,0)/\2<=x/\x<=nrem/\FallA L a lo (lo+x))
    (Q:=λc st'=>st'=SortSt.mk' κ a p g none/\∃n,c=(none,n,0)/\2<=n/\n<=nrem/\FallA L a lo (lo+n)) (λx c st' hx1 hx2 hI=>?_) (λc st' hI=>?_) ⟨rfl,rfl,!1,!1,f2⟩) λc st' hI=>?_)
   ·obtain⟨rfl,rfl,h3,h4,f⟩:=hI
    dsimp only;obtain⟨u,eu⟩:=U1 (a:=a) (i:=lo+x) (!1);obtain⟨v,ev⟩:=U1 (a:=a) (i:=lo+x-1) (!1);refine wpS_bind (bM T G eu ev ?_);dsimp only;cases z:L u v with
    |true=>
     rw[if_pos rfl,if_neg (!1)];exact wpS_pure ⟨rfl,rfl,!1,!1,f.snoc o G (!1) ev eu z⟩
    |false=>
     rw[if_neg (!2)];refine wpS_bind (bM T G ev eu ?_);have rs:L v u=true:=by
      rcases G.un (i:=lo+x-1) (j:=lo+x) (!1) ev eu with w|w
      ·exact w
      ·rw[w]at z;cases z
     dsimp only;rw[rs,if_pos rfl];exact wpS_pure ⟨rfl,x,rfl,h3,h4,f⟩
   ·obtain⟨rfl,rfl,h3,h4,f⟩:=hI
    rw[show max (1+1) nrem=nrem by omega]at f ⊢;exact⟨rfl,nrem,rfl,!1,le_refl _,f⟩
   ·obtain⟨rfl,n,rfl,h3,h4,f⟩:=hI
    dsimp only;rw[if_neg (!1)];refine wpS_bind (Gx ?_);have sg:=wL (a:=a) (lo:=lo) (n:=n) (!1);have rr:=wM o G (!1) f;generalize mirror a lo (lo+n) ((lo+n-lo) / 2)=a2 at sg rr ⊢;have G2:=G.perm sg.pm;refine wpS_bind (asc G2 n (by rw[sg.size];exact hn) (!1) h4 rr (λx n R' hn1 hn2 hR=>?_) λn hn1 hn2 r hend=>?_)
    ·obtain⟨u,eu⟩:=U1 (a:=a2) (i:=lo+n) (by rw[sg.size];omega)
     obtain⟨v,ev⟩:=U1 (a:=a2) (i:=lo+n-1) (by rw[sg.size];omega);refine wpS_bind (bM T G2 eu ev ?_);have:=hR u v eu ev;dsimp only;cases z:L u v<;>rw[z]at this<;>exact wpS_pure this
    ·exact wpS_pure (q a2 n sg hn1 hn2 r)
end
end Rg
namespace Rg
open PySem PySem.W PyProof.Rows
section
variable{α:Type}{L:α->α->Bool}{D:α->Prop}
theorem wO{a:Array α}{lo k l:Nat}(hn:lo+k<a.size)(hl:l<=k):Sg a (bubble a (lo+k) (lo+k-(lo+l))) lo:=
 ⟨Array.perm_iff_toList_perm.mp (bubble_perm _ _ _),λm hm=>by rw[getElem?_bubble hn _ (!1),if_neg (!1),if_neg (!1)]⟩
theorem wP(o:Ord L D){a:Array α}(G:Gd L D a){lo k l:Nat}{v:α}(hn:lo+k<a.size)(hl:l<=k)(r:RiseA L a lo (lo+k))(ev:a[lo+k]?=some v)
  (h1:∀j x,j<l->a[lo+j]?=some x->L v x=false) (h2:∀j x,l<=j->j<k->a[lo+j]?=some x->L v x=true):RiseA L (bubble a (lo+k) (lo+k-(lo+l))) lo (lo+(k+1)):=by
 intro i j x y g1 g2 g3 ex ey;rw[getElem?_bubble hn _ (!1),show lo+k-(lo+k-(lo+l))=lo+l by omega]at ex ey;have lo_at:∀{m z},lo<=m->a[m]?=some z->a[lo+(m-lo)]?=some z:=λ{m z} h e=>by rw[show lo+(m-lo)=m by omega];exact e
 by_cases j1:j=lo+l
 ·rw[if_pos j1,ev]at ey
  cases ey;rw[if_neg (!1),if_neg (!1)]at ex;exact h1 (i-lo) x (!1) (lo_at (!1) ex)
 ·rw[if_neg j1]at ey
  by_cases j2:lo+l<j/\j<=lo+k
  ·rw[if_pos j2]at ey
   by_cases i1:i=lo+l
   ·rw[if_pos i1,ev]at ex
    cases ex;exact o.asy (G.at ev) (G.at ey) (h2 (j-1-lo) y (!1) (!1) (lo_at (!1) ey))
   ·rw[if_neg i1]at ex
    by_cases i2:lo+l<i/\i<=lo+k
    ·rw[if_pos i2]at ex
     exact r (i-1) (j-1) x y (!1) (!1) (!1) ex ey
    ·rw[if_neg i2]at ex
     exact r i (j-1) x y g1 (!1) (!1) ex ey
  ·rw[if_neg j2]at ey
   rw[if_neg (!1),if_neg (!1)]at ex;exact r i j x y g1 g2 (!1) ex ey
end
section
variable{M:Model}{A:Around}{E:Value->Shared->Prop}{s:Shared}{κ:SortKind}{L:Keyed->Keyed->Bool}{D:Keyed->Prop}
theorem wQ(T:Lts M A E s κ L D){a:Array Keyed}(G:Gd L D a){p:Array (Nat×Nat×Nat)}{g lo n ok:Nat}{Q:Bool->SortSt->Prop}(hn:lo+n<=a.size)(h0:1<=ok)(hok:ok<=n)(r:RiseA L a lo (lo+ok))
  (q:∀a':Array Keyed,Sg a a' lo->RiseA L a' lo (lo+n)->Q true (SortSt.mk' κ a' p g none)):wpS M A E s (binarySort' lo n ok) Q (SortSt.mk' κ a p g none):=by
 have o:=T.od;rw[binarySort'_eq,show max ok 1=ok by omega];refine wpS_bind (wpS_mono (wpS_forRange (I:=λk c st'=>c=(none,())/\∃a',st'=SortSt.mk' κ a' p g none/\Sg a a' lo/\RiseA L a' lo (lo+k))
  (Q:=λc st'=>c=(none,())/\∃a',st'=SortSt.mk' κ a' p g none/\Sg a a' lo/\RiseA L a' lo (lo+n)) (λk c st' hk1 hk2 hI=>?_) (λc st' hI=>?_) ⟨rfl,a,rfl,Sg.refl a lo,r⟩) λc st' hI=>?_)
 ·obtain⟨rfl,b,rfl,sg,rb⟩:=hI
  have Gb:=G.perm sg.pm;have bs:=sg.size;obtain⟨v,ev⟩:=U1 (a:=b) (i:=lo+k) (!1);dsimp only;refine wpS_bind (wpS_mono (wpS_forRange (I:=λi c st'=>st'=SortSt.mk' κ b p g none/\∃l r,c=(none,l,r)/\l<=r/\r<=k/\r-l+i<=k/\(∀j x,j<l->b[lo+j]?=some x->L v x=false)/\(∀j x,r<=j->j<k->b[lo+j]?=some x->L v x=true))
   (Q:=λc st'=>st'=SortSt.mk' κ b p g none/\∃l,c=(none,l,l)/\l<=k/\(∀j x,j<l->b[lo+j]?=some x->L v x=false)/\(∀j x,l<=j->j<k->b[lo+j]?=some x->L v x=true)) (λi c st' hi1 hi2 hI=>?_) (λc st' hI=>?_) ⟨rfl,0,k,rfl,!1,!1,!1,λj x h=>by omega,λj x h h'=>by omega⟩) λc st' hI=>?_)
  ·obtain⟨rfl,l,r,rfl,g1,g2,g3,g4,g5⟩:=hI
   dsimp only;by_cases hge:l ≥ r
   ·rw[if_pos hge]
    have:l=r:=by omega
    subst this;exact wpS_pure ⟨rfl,l,rfl,g2,g4,g5⟩
   ·rw[if_neg hge]
    obtain⟨u,eu⟩:=U1 (a:=b) (i:=lo+(l+r) / 2) (!1);refine wpS_bind (bM T Gb ev eu ?_);dsimp only;cases z:L v u with
    |true=>
     rw[if_pos rfl];refine wpS_pure ⟨rfl,l,(l+r) / 2,rfl,!1,!1,!1,g4,λj x hj hj' ex=>?_⟩;rcases lt_or_ge ((l+r) / 2) j with w|w
     ·cases y:L v x with
      |true=>rfl
      |false=>
       have:=o.tr (Gb.at eu) (Gb.at ex) (Gb.at ev) (rb (lo+(l+r) / 2) (lo+j) u x (!1) (!1) (!1) eu ex) y;rw[this]at z;cases z
     ·have:j=(l+r) / 2:=by omega
      subst this;rw[eu]at ex;cases ex;exact z
    |false=>
     rw[if_neg (!2)];refine wpS_pure ⟨rfl,(l+r) / 2+1,r,rfl,!1,!1,!1,λj x hj ex=>?_,g5⟩;rcases lt_or_ge j ((l+r) / 2)with w|w
     ·exact o.tr (Gb.at ex) (Gb.at eu) (Gb.at ev) (rb (lo+j) (lo+(l+r) / 2) x u (!1) (!1) (!1) ex eu) z
     ·have:j=(l+r) / 2:=by omega
      subst this;rw[eu]at ex;cases ex;exact z
  ·obtain⟨rfl,l,r,rfl,g1,g2,g3,g4,g5⟩:=hI
   have:l=r:=by omega
   subst this;exact⟨rfl,l,rfl,g2,g4,g5⟩
  ·obtain⟨rfl,l,rfl,g2,g4,g5⟩:=hI
   dsimp only;rw[moveDown'_eq];refine wpS_bind (wpS_modify (wpS_pure ⟨rfl,_,rfl,sg.trans (wO (!1) g2),wP o Gb (!1) g2 rb ev g4 g5⟩))
 ·obtain⟨rfl,b,rfl,sg,rb⟩:=hI
  rw[show max ok n=n by omega]at rb;exact⟨rfl,b,rfl,sg,rb⟩
 ·obtain⟨rfl,b,rfl,sg,rb⟩:=hI
  exact wpS_pure (q b sg rb)
end
end Rg
namespace Rg
open PySem PySem.W PyProof.Rows
section
variable{M:Model}{A:Around}{E:Value->Shared->Prop}{s:Shared}{κ:SortKind}{L:Keyed->Keyed->Bool}{D:Keyed->Prop}
theorem RiseA.list{α:Type}{L:α->α->Bool}{a:Array α}{lo n:Nat}(r:RiseA L a lo (lo+n)):K7 L ((a.toList.drop lo).take n):=by
 refine pairwise_iff_getElem.mpr λi j hi hj hij=>?_
 rw[length_take,length_drop,Array.length_toList]at hi hj;refine r (lo+i) (lo+j) _ _ (!1) (!1) (!1) ?_ ?_
 ·rw[←Array.getElem?_toList,List.getElem_take,List.getElem_drop]
  exact getElem?_eq_getElem (by rw[Array.length_toList];omega)
 ·rw[←Array.getElem?_toList,List.getElem_take,List.getElem_drop]
  exact getElem?_eq_getElem (by rw[Array.length_toList];omega)
def V5(n:Nat):Nat:=if n<64 then n else n / 2+n % 2
theorem Gy{n:Nat}(h1:2<=n)(h2:n<128):minRun' n n 0=V5 n:=by
 obtain⟨f,rfl⟩:∃f,n=f+2:=⟨n-2,!1⟩
 unfold V5;have e:minRun' (f+1+1) (f+2) 0=if f+2<64 then f+2 else(f+2) / 2+(f+2) % 2:=by
  rw[minRun'_succ];by_cases h:f+2<64
  ·rw[if_pos h,if_pos h]
  ·rw[if_neg h,if_neg h,minRun'_succ,if_pos (!1),Nat.zero_max]
 exact e
structure P1(L:Keyed->Keyed->Bool)(κ:SortKind)(a:Array Keyed)(g n1:Nat)(st:SortSt):Prop where
 ex:∃a',st=SortSt.mk' κ a' #[(0,n1,0)] g none/\Sg a a' 0/\RiseA L a' 0 (0+n1)
structure P2(L:Keyed->Keyed->Bool)(κ:SortKind)(a:Array Keyed)(g:Nat)(st:SortSt):Prop where
 ex:∃a' n1 n2 pw,st=SortSt.mk' κ a' #[(0,n1,pw),(n1,n2,0)] g none/\Sg a a' 0/\0<n1/\0<n2/\n1+n2=a.size/\RiseA L a' 0 (0+n1)/\RiseA L a' n1 (n1+n2)
theorem Gz(T:Lts M A E s κ L D){a:Array Keyed}(G:Gd L D a){g:Nat}{Q:Unit->SortSt->Prop}(h64:2<=a.size)(h128:a.size<128)
  (q:∀(a':Array Keyed)(p':Array (Nat×Nat×Nat))(g':Nat),a'.toList.Perm a.toList->K7 L a'.toList->Q () (SortSt.mk' κ a' p' g' none)):wpS M A E s sortRuns' Q (SortSt.mk' κ a #[] g none):=by
 have o:=T.od;have mr1:1<=V5 a.size:=by unfold V5;split<;>omega
 have mr2:a.size<=2*V5 a.size:=by unfold V5;split<;>omega
 have mr3:V5 a.size<=a.size:=by unfold V5;split<;>omega
 rw[sortRuns'_eq];refine wpS_bind (wpS_get ?_);have esz:(arrOf (SortSt.mk' κ a #[] g none)).size=a.size:=rfl;simp only[esz,Gy h64 h128];generalize hmr:V5 a.size=mr at mr1 mr2 mr3 ⊢;refine wpS_bind (wpS_mono (wpS_forRange
  (I:=λx c st'=>(x=0/\c=(none,0)/\st'=SortSt.mk' κ a #[] g none)∨(x=1/\∃n1,c=(none,n1)/\mr<=n1/\n1<=a.size/\P1 L κ a g n1 st')∨(x=2/\c=(none,a.size)/\P2 L κ a g st'))
  (Q:=λc st'=>c=(none,a.size)/\(P1 L κ a g a.size st'∨P2 L κ a g st')) (λx c st' hx1 hx2 hI=>?_) (λc st' hI=>?_) (.inl ⟨rfl,rfl,rfl⟩)) λc st' hI=>?_)
 ·
  rcases hI with⟨rfl,rfl,rfl⟩|⟨rfl,n1,rfl,hn1,hn2,⟨b,rfl,sg,r1⟩⟩|⟨rfl,rfl,p2⟩
  ·dsimp only
   rw[if_neg (!1)];refine wpS_bind (wN T G (!1) (!1) λb m sg hm1 hm2 r=>?_);dsimp only;have Gb:=G.perm sg.pm;have bs:=sg.size;by_cases hlt:m<mr
   ·rw[if_pos hlt]
    refine wpS_bind (wpS_lift (wpAny_rule ⟨rfl,?_⟩));refine wpS_bind (wQ T Gb (!1) hm1 (!1) r λb2 sg2 r2=>?_);rw[if_neg (show ¬((!true)=true) by simp)];refine wpS_bind (wpS_get ?_);have hb:(pendingOf (SortSt.mk' κ b2 #[] g none)).back?=none:=rfl;rw[hb];dsimp only;have em:min (a.size-0) mr=mr:=by omega
    rw[em]at r2 ⊢;exact wpS_bind (wpS_modify (wpS_pure (.inr (.inl ⟨rfl,mr,by rw[Nat.zero_add],le_refl _,mr3,⟨b2,rfl,sg.trans sg2,r2⟩⟩))))
   ·rw[if_neg hlt]
    refine wpS_bind (wpS_get ?_);have hb:(pendingOf (SortSt.mk' κ b #[] g none)).back?=none:=rfl;rw[hb];dsimp only;exact wpS_bind (wpS_modify (wpS_pure (.inr (.inl ⟨rfl,m,by rw[Nat.zero_add],!1,!1,⟨b,rfl,sg,r⟩⟩))))
  ·dsimp only
   by_cases hge:n1 ≥ a.size
   ·rw[if_pos hge]
    have:n1=a.size:=by omega
    subst this;exact wpS_pure ⟨rfl,.inl ⟨b,rfl,sg,r1⟩⟩
   rw[if_neg hge];have Gb:=G.perm sg.pm;have bs:=sg.size;have fin:∀(b2:Array Keyed)(n2:Nat),Sg b b2 n1->n2=a.size-n1->RiseA L b2 n1 (n1+n2)->∀pw:Nat,P2 L κ a g (SortSt.mk' κ b2 (((#[(0,n1,0)]:Array (Nat×Nat×Nat)).modify ((#[(0,n1,0)]:Array (Nat×Nat×Nat)).size-1) λx=>(x.1,x.2.1,pw)).push (n1,n2,0)) g none):=λb2 n2 sg2 e2 r2 pw=>by
    refine⟨b2,n1,n2,pw,?_,⟨sg2.pm.trans sg.pm,λk hk=>by omega⟩,!1,!1,!1,λi j x y h1 h2 h3 ex ey=>?_,r2⟩
    ·rfl
    ·rw[sg2.out i (!1)]at ex
     rw[sg2.out j (!1)]at ey;exact r1 i j x y h1 h2 h3 ex ey
   refine wpS_bind (wN T Gb (!1) (!1) λb2 m sg2 hm1 hm2 r=>?_);dsimp only;have Gb2:=Gb.perm sg2.pm;have bs2:=sg2.size;by_cases hlt:m<mr
   ·rw[if_pos hlt]
    refine wpS_bind (wpS_lift (wpAny_rule ⟨rfl,?_⟩));refine wpS_bind (wQ T Gb2 (!1) hm1 (!1) r λb3 sg3 r3=>?_);rw[if_neg (show ¬((!true)=true) by simp)];have em:min (a.size-n1) mr=a.size-n1:=by omega
    rw[em]at r3 ⊢;have f2:=fin b3 _ (sg2.trans sg3) rfl r3;refine wpS_bind (wpS_get ?_);have hb:(pendingOf (SortSt.mk' κ b3 #[(0,n1,0)] g none)).back?=some (0,n1,0):=rfl;rw[hb];dsimp only;refine wpS_bind (wpS_mono (wpS_forRange (I:=λ_ c st'=>c=(none,())/\st'=SortSt.mk' κ b3 #[(0,n1,0)] g none) (Q:=λc st'=>c=(none,())/\st'=SortSt.mk' κ b3 #[(0,n1,0)] g none) (λx c st' _ _ hI=>?_) (λc st' h=>h) ⟨rfl,rfl⟩) λc st' hI=>?_)
    ·obtain⟨rfl,rfl⟩:=hI
     refine wpS_bind (wpS_get ?_);have hs:¬(pendingOf (SortSt.mk' κ b3 #[(0,n1,0)] g none)).size>1:=by show ¬1>1;decide
     rw[if_neg hs];exact wpS_pure ⟨rfl,rfl⟩
    ·obtain⟨rfl,rfl⟩:=hI
     dsimp only;exact wpS_bind (wpS_modify (wpS_bind (wpS_modify (wpS_pure (.inr (.inr ⟨rfl,by rw[show n1+(a.size-n1)=a.size by omega],f2 _⟩))))))
   ·rw[if_neg hlt]
    have em:m=a.size-n1:=by omega
    have f2:=fin b2 m sg2 em r;refine wpS_bind (wpS_get ?_);have hb:(pendingOf (SortSt.mk' κ b2 #[(0,n1,0)] g none)).back?=some (0,n1,0):=rfl;rw[hb];dsimp only;refine wpS_bind (wpS_mono (wpS_forRange (I:=λ_ c st'=>c=(none,())/\st'=SortSt.mk' κ b2 #[(0,n1,0)] g none) (Q:=λc st'=>c=(none,())/\st'=SortSt.mk' κ b2 #[(0,n1,0)] g none) (λx c st' _ _ hI=>?_) (λc st' h=>h) ⟨rfl,rfl⟩) λc st' hI=>?_)
    ·obtain⟨rfl,rfl⟩:=hI
     refine wpS_bind (wpS_get ?_);have hs:¬(pendingOf (SortSt.mk' κ b2 #[(0,n1,0)] g none)).size>1:=by show ¬1>1;decide
     rw[if_neg hs];exact wpS_pure ⟨rfl,rfl⟩
    ·obtain⟨rfl,rfl⟩:=hI
     dsimp only;exact wpS_bind (wpS_modify (wpS_bind (wpS_modify (wpS_pure (.inr (.inr ⟨rfl,by rw[show n1+m=a.size by omega],f2 _⟩))))))
  ·dsimp only
   rw[if_pos (le_refl _)];exact wpS_pure ⟨rfl,.inr p2⟩
 ·rcases hI with⟨h,_,_⟩|⟨h,_⟩|⟨_,rfl,p2⟩
  ·omega
  ·omega
  ·exact⟨rfl,.inr p2⟩
 ·obtain⟨rfl,hP⟩:=hI
  dsimp only;have whole:∀{b:Array Keyed},Sg a b 0->RiseA L b 0 (0+a.size)->K7 L b.toList:=λ{b} sg r=>by
   have:=r.list;rw[drop_zero,take_of_length_le (by rw[Array.length_toList,sg.size];exact le_refl _)]at this;exact this
  refine wpS_bind (wpS_mono (wpS_forRange (I:=λx c st'=>c=(none,())/\((∃b pw g',st'=SortSt.mk' κ b #[(0,a.size,pw)] g' none/\b.toList.Perm a.toList/\K7 L b.toList)∨(x=0/\P2 L κ a g st')))
   (Q:=λc st'=>c=(none,())/\∃b pw g',st'=SortSt.mk' κ b #[(0,a.size,pw)] g' none/\b.toList.Perm a.toList/\K7 L b.toList) (λx c st' _ hx hI=>?_) (λc st' hI=>?_) ⟨rfl,?_⟩) λc st' hI=>?_)
  ·rcases hI with⟨rfl,⟨b,pw,g',rfl,pm,r⟩|⟨rfl,⟨b,n1,n2,pw,rfl,sg,h1,h2,h3,r1,r2⟩⟩⟩
   ·refine wpS_bind (wpS_get ?_)
    have hs:(pendingOf (SortSt.mk' κ b #[(0,a.size,pw)] g' none)).size<=1:=by show 1<=1;decide
    rw[if_pos hs];exact wpS_pure ⟨rfl,b,pw,g',rfl,pm,r⟩
   ·refine wpS_bind (wpS_get ?_)
    have hs:¬(pendingOf (SortSt.mk' κ b #[(0,n1,pw),(n1,n2,0)] g none)).size<=1:=by show ¬2<=1;decide
    rw[if_neg hs];have Gb:=G.perm sg.pm;have bs:=sg.size;have l1:=r1.list;rw[drop_zero]at l1;have l2:=r2.list;rw[take_of_length_le (by rw[length_drop,Array.length_toList];omega)]at l2;refine wpS_bind (Gw T (!1) h1 h2 Gb.d l1 l2 λb' g' pm r=>?_);rw[if_neg (show ¬((!true)=true) by simp)];rw[h3];exact wpS_pure ⟨rfl,.inl ⟨b',pw,g',rfl,pm.trans sg.pm,r⟩⟩
  ·rcases hI with⟨rfl,h|⟨h,_⟩⟩
   ·exact⟨rfl,h⟩
   ·omega
  ·rcases hP with⟨b,rfl,sg,r⟩|p2
   ·exact .inl ⟨b,0,g,rfl,sg.pm,whole sg r⟩
   ·exact .inr ⟨rfl,p2⟩
  ·obtain⟨rfl,b,pw,g',rfl,pm,r⟩:=hI
   exact wpS_pure (q b _ g' pm r)
end
end Rg
namespace Rg
open PySem PySem.W PyProof.Rows
structure OrdS(lt:Str->Str->Bool):Prop where
 asy:∀{x y:Str},lt x y=true->lt y x=false
 tr:∀{x y z:Str},lt y x=false->lt z y=false->lt z x=false
 an:∀{x y:Str},lt x y=false->lt y x=false->x=y
def G4(lt:Str->Str->Bool)(xs:List Str):List Str:=xs.mergeSort λx y=>!lt y x
section
variable{lt:Str->Str->Bool}
theorem dN(xs:List Str):(G4 lt xs).Perm xs:=List.mergeSort_perm _ _
theorem mJ(o:OrdS lt)(xs:List Str):(G4 lt xs).Pairwise λx y=>lt y x=false:=by
 have:=List.pairwise_mergeSort (le:=λx y=>!lt y x) (λa b c h1 h2=>by
  have h1':lt b a=false:=by simpa using h1
  have h2':lt c b=false:=by simpa using h2
  simpa using o.tr h1' h2') (λa b=>by
  cases h:lt b a with
  |false=>rfl
  |true=>simp[o.asy h]) xs
 exact this.imp λh=>by simpa using h
theorem wR(o:OrdS lt):∀{xs ys:List Str},xs.Perm ys->(xs.Pairwise λx y=>lt y x=false)->(ys.Pairwise λx y=>lt y x=false)->xs=ys
 |[],ys,p,_,_=>(List.nil_perm.mp p).symm
 |x::r,[],p,_,_=>absurd (List.perm_nil.mp p) (!2)
 |x::r,y::t,p,hx,hy=>by
  have e:x=y:=by
   rcases mem_cons.mp (p.mem_iff.mp mem_cons_self)with h|h
   ·exact h
   rcases mem_cons.mp (p.mem_iff.mpr mem_cons_self)with h'|h'
   ·exact h'.symm
   ·exact o.an ((List.pairwise_cons.mp hy).1 x h) ((List.pairwise_cons.mp hx).1 y h')
  subst e;rw[wR o (List.Perm.cons_inv p) (List.pairwise_cons.mp hx).2 (List.pairwise_cons.mp hy).2]
theorem bN(o:OrdS lt){xs ys:List Str}(p:ys.Perm xs)(h:ys.Pairwise λx y=>lt y x=false):ys=G4 lt xs:=wR o (p.trans (dN xs).symm) h (mJ o xs)
theorem GA(o:OrdS lt){xs ys:List Str}(p:ys.Perm xs):G4 lt ys=G4 lt xs:=bN o ((dN ys).trans p) (mJ o ys)
end
section
variable{prog:Program}{w:World}{A:Around}{E:Value->Shared->Prop}{s:Shared}{κ:SortKind}
theorem wS{ks vs:List Value}{xs:List Str}{lt:Str->Str->Bool}{Q:SortSt->Shared->Prop}(dec:Value->Str)(o:OrdS lt)(hl:ks.length=vs.length)(hx:ks.map dec=xs)(nd:xs.Nodup)(h2:2<=vs.length)(h128:vs.length<128)
  (hc:∀k∈ks,∀k'∈ks,∀(C:Bool->Shared->Prop),C (lt (dec k) (dec k')) s->wpAny (model prog w) A (keyLt' κ k k') C (λ_ _=>False) s)
  (hG:∀(st':SortSt),(arrOf st').toList.Perm (ks.zip vs)->(arrOf st').toList.map (λz=>dec z.1)=G4 lt xs->failedOf st'=none->Q st' s):
  wpAny (model prog w) A ((sortRuns').run (SortSt.mk' κ (ks.toArray.zip vs.toArray) #[] 7 none)) (λr s'=>Q r.2 s') E s:=by
 have ez:(ks.toArray.zip vs.toArray).toList=ks.zip vs:=by simp
 have sz:(ks.toArray.zip vs.toArray).size=vs.length:=by simp[hl]
 have mz:(ks.zip vs).map (λz=>dec z.1)=xs:=by
  rw[←hx];have:(ks.zip vs).map (λz=>dec z.1)=((ks.zip vs).map Prod.fst).map dec:=by rw[map_map];rfl
  rw[this,List.map_fst_zip (!1)]
 have T:Lts (model prog w) A E s κ (λx y=>lt (dec x.1) (dec y.1)) (λz=>z.1∈ks):=by
  refine⟨λ{x y st Q'} hx' hy' hk q=>?_,λ_ _ h=>o.asy h,λ_ _ _ h1 h2=>o.tr h1 h2⟩;rw[lt'_eq];refine wpS_bind (wpS_get ?_);rw[hk];refine wpS_bind (wpS_lift (wpAny_attempt (wpAny_mono (hc x.1 hx' y.1 hy' (λb s'=>s'=s/\b=lt (dec x.1) (dec y.1)) ⟨rfl,rfl⟩) (λb s' h=>?_) λ_ _ h=>h.elim)));obtain⟨rfl,rfl⟩:=h;exact⟨rfl,wpS_pure q⟩
 have G:Gd (λx y:Keyed=>lt (dec x.1) (dec y.1)) (λz=>z.1∈ks) (ks.toArray.zip vs.toArray):=by
  refine⟨λz hz=>?_,?_⟩
  ·rw[ez]at hz
   exact(of_mem_zip hz).1
  ·rw[ez]
   have:((ks.zip vs).map (λz=>dec z.1)).Pairwise (·≠·):=by rw[mz];exact nd
   refine(List.pairwise_map.mp this).imp λ{x y} h=>?_
   cases h1:lt (dec x.1) (dec y.1)with
   |true=>exact .inl rfl
   |false=>
    cases h2:lt (dec y.1) (dec x.1)with
    |true=>exact .inr rfl
    |false=>exact absurd (o.an h1 h2) h
 have run:=Gz T G (g:=7) (Q:=λ_ st'=>Q st' s) (!1) (!1) λa' p' g' pm r=>?_
 ·unfold wpS at run
  exact wpAny_mono run (λr s' h=>by obtain⟨rfl,h⟩:=h;exact h) λ_ _ h=>h
 ·rw[ez]at pm
  refine hG _ pm (bN o ?_ (List.pairwise_map.mpr r)) rfl;have:=pm.map λz:Keyed=>dec z.1
  rw[mz]at this;exact this
end
end Rg
namespace Rg
open PySem PySem.W PySem.Spec PyProof.Rows L2
theorem V6:OrdS B1:=by
 have tot:∀{x y:Str},B1 x y=false->B1 y x=false->x=y:=λ{x y} h1 h2=>by
  unfold B1 at h1 h2;rw[kI x y]at h2;cases h:M4 x y with
  |eq=>exact Ek h
  |lt=>rw[h]at h1;cases h1
  |gt=>rw[h]at h2;cases h2
 refine⟨λh=>wD h,λ{x y z} h1 h2=>?_,tot⟩;cases h:B1 z x with
 |false=>rfl
 |true=>
  cases h3:B1 x y with
  |true=>rw[gW h h3]at h2;cases h2
  |false=>
   have:=tot h1 h3;subst this;rw[h]at h2;cases h2
def Z7(H:Hp)(v:Value):Str:=match v with
 |.ref p=>match H p with
  |some (.tup [_,.str w])=>w
  |_=>Str.empty
 |_=>Str.empty
theorem mK{H:Hp}{p:Addr}{x:Str}(h:H p=some (.tup (L7 x))):Z7 H (.ref p)=x:=by
 show(match H p with|some (.tup [_,.str w])=>w|_=>Str.empty)=x;rw[h];rfl
theorem GB{H:Hp}{xs:List Str}{ks:List Value}(k:KeysAre H xs ks):ks.map (Z7 H)=xs:=by
 apply List.ext_getElem?;intro i;have hl:=Paired.length k;rcases lt_or_ge i ks.length with h|h
 ·obtain⟨p,e,q⟩:=k.getAt i h
  have hx:i<xs.length:=by omega
  rw[getElem?_map,getElem?_eq_getElem h,getElem?_eq_getElem hx];have d:ks[i]=.ref p:=by rw[←e,getD_eq_getElem?_getD,getElem?_eq_getElem h];rfl
  have:xs.getD i Str.empty=xs[i]:=by rw[getD_eq_getElem?_getD,getElem?_eq_getElem hx];rfl
  rw[this]at q;rw[d];exact congrArg some (mK q)
 ·rw[getElem?_eq_none (by rw[length_map];exact h),getElem?_eq_none (!1)]
theorem mL{dec:Value->Str}:∀{l:List Keyed},(∀z∈l,L2.RelV (V.str (dec z.1)) z.2)->Vals ((l.map λz=>dec z.1).map V.str) (l.map (·.2))
 |[],_=>.nil
 |z::l,h=>.cons (h z mem_cons_self) (mL λw hw=>h w (mem_cons_of_mem _ hw))
section
variable{X:Cx}{ζ:List (Addr×Obj)}{σ:L2.St}{H:Hp}{s:Shared}{D f:Addr}{n k:Nat}{vs:List Value}{xs:List Str}{fd:FuncData}{wd:Str}{sp:Sp}{P:PySem.Fin->Shared->Prop}{E:Value->Shared->Prop}
theorem wT(I:Inv X ζ σ H s)(hD:s.heap.get? D=some (seqObj "list" vs.toArray n))(fD:E7 X ζ H D)(rv:Vals (xs.map V.str) vs)(hx:∀x∈xs,x.length<=1000)(h64:xs.length<128)(nd:xs.Nodup)(hne:∀e s,X.xe e s->False)
  (F:FnOk X.prog X.w X.K X.mg X.base B9 k f fd [wd] sp) (hsp:∀(H':Hp)(vs:List V)(Q:VK)(E:XK),Same H H'->W3 vs H' Q E->sp vs H' Q E) (hr:Room k X.A) (hb:Binds X.K fd [wd] [])
  (h:∀(s':Shared)(H':Hp)(us':List Value)(n':Nat),Inv X ζ σ H' s'->Same H H'->H' D=none->s'.heap.get? D=some (seqObj "list" (toArray us') n')->Vals ((G4 B1 xs).map V.str) us'->P (.done (.ret .none)) s'):
  wpAny (model X.prog X.w) X.A (ksk_tree D (.ref f) false) P E s:=by
 have hlen:xs.length=vs.length:=by rw[←rv.length,length_map]
 have hz:vs.length<=sizeLine:=by rw[←hlen,sizeLine_eq];omega
 unfold ksk_tree;refine wpAny_bind (listItems_at hD rfl ?_);refine wpAny_bind (listUpdate_at hD rfl ?_ (by rw[size_toArray];exact hz) (zero_le _));obtain⟨e1,ho1⟩:∃e1,(s.heap.update D (Obj.mapSeq λ_=>(#[]:Array Value))).get? D=some (seqObj "list" #[] e1):=⟨_,get?_update_seq hD λ_=>#[]⟩
 have I1:Inv X ζ σ H {s with heap:=s.heap.update D (Obj.mapSeq λ_=>(#[]:Array Value)),toks:=s.toks}:=
  W4 I fD λc o hc q=>(Heap.get?_update_other _ _ (Ne.symm hc)).trans q
 refine wpAny_bind (seqEpoch_at ho1 rfl ?_);refine wpAny_bind (wpAny_newTuple ?_ (by show vs.length<=_;exact hz));refine wpAny_bind (wpAny_newList ?_ (zero_le _));refine wpAny_holding ?_;generalize hg:s.heap.update D (Obj.mapSeq λ_=>(#[]:Array Value))=g1 at I1 ho1 ⊢;have I2:Inv X ζ σ H {s with heap:=g1.push {cls:=.type "tuple",data:=.seq vs.toArray},toks:=s.toks}:=I1.kept (λb o q=>Heap.get?_push_of_some _ q);generalize hg2:g1.push {cls:=.type "tuple",data:=.seq vs.toArray}=g2 at I2 ⊢;have ho2:g2.get? D=some (seqObj "list" #[] e1):=by rw[←hg2];exact Heap.get?_push_of_some _ ho1
 have I3:Inv X ζ σ H {s with heap:=g2.push {cls:=.type "list",data:=.seq ([]:List Value).toArray},toks:=s.toks}:=I2.kept (λb o q=>Heap.get?_push_of_some _ q);have fK:E7 X ζ H g2.objs.size:=I2.fpOk (le_refl _) (I2.hok.fresh (le_refl _));have hDK:D≠g2.objs.size:=ne_of_lt (Heap.lt_size ho2);have ho3:(g2.push {cls:=.type "list",data:=.seq ([]:List Value).toArray}).get? D=some (seqObj "list" #[] e1):=Heap.get?_push_of_some _ ho2;have hk3:(g2.push {cls:=.type "list",data:=.seq ([]:List Value).toArray}).get? g2.objs.size=some (seqObj "list" (toArray ([]:List Value)) 0):=Heap.get?_push_size _ rfl;have I4:Inv X (ζ++[(D,seqObj "list" #[] e1)]++[(g2.objs.size,seqObj "list" (toArray ([]:List Value)) 0)]) σ H {s with heap:=g2.push {cls:=.type "list",data:=.seq ([]:List Value).toArray},toks:=s.toks}:=
  jW (jW I3 fD ho3 (λv z=>nomatch z)) (jY fK hDK) hk3 (λv z=>nomatch z)
 generalize hkS:g2.objs.size=kS at fK hDK hk3 I4 ⊢;unfold ksk_rest;refine wpAny_bind (wpAny_rule ?_);rw[←Array.forIn_toList];refine wpAny_bind (ksk_fold (λi t=>∃ks c H',Inv X (ζ++[(D,seqObj "list" #[] e1)]++[(kS,seqObj "list" (toArray ks) c)]) σ H' t/\Same H H'/\KeysAre H' (xs.take i) ks) vs.toArray.toList 0 _ ⟨[],0,H,I4,Same.refl H,.nil⟩ ?_ ?_)
 ·rintro i v t hv ⟨ks,c,H',It,sm,kk⟩
  rw[Nat.zero_add]at kk ⊢;have hv':vs[i]?=some v:=by simpa using hv
  have hi:i<xs.length:=by rw[hlen];exact(List.getElem?_eq_some_iff.mp hv').1
  obtain⟨u,hu,ru⟩:=rv.get (x:=.str xs[i]) (i:=i) (by rw[getElem?_map,getElem?_eq_getElem hi];rfl);rw[hv']at hu;cases hu;have hkl:ks.length<128:=by
   have:=Paired.length kk;rw[length_take]at this;omega
  refine wpAny_bind (wpAny_attempt (wpAny_mono (fA F hr hb .nil aO It (.cons ru .nil) (Q:=λy H2=>∃p,y=.ref p/\H' p=none/\H2=upd H' p (.tup (L7 xs[i])))
   (hsp _ _ _ _ sm ⟨xs[i],rfl,hx _ (getElem_mem hi),λp hp=>⟨p,rfl,hp,rfl⟩⟩)) (λr t1 hq=>?_) λe t1 hq=>(hne e t1 hq).elim))
  obtain⟨y,H2,I5,r5,p,rfl,hp,rfl⟩:=hq;cases r5;have hk5:=fP I5;have I6:=fO I5;have f6:E7 X (ζ++[(D,seqObj "list" #[] e1)]) (upd H' p (.tup (L7 xs[i]))) kS:=jX (jY fK hDK) hk5.2;refine wpAny_bind (listUpdate_at hk5.1 rfl ?_ (by rw[size_toArray,sizeLine_eq];omega) (le_trans (le_of_eq (Array.size_push ..)) (by rw[size_toArray,sizeLine_eq];omega)));have hup:=get?_update_seq hk5.1 (·.push (Value.ref p));have ea:(toArray ks).push (Value.ref p)=toArray (ks++[Value.ref p]):=by simp
  rw[ea]at hup;have I7:=jW (W4 (h':=t1.heap.update kS (Obj.mapSeq (·.push (Value.ref p)))) (t':=t1.toks) I6 f6 λc' o hc q=>(Heap.get?_update_other _ _ (Ne.symm hc)).trans q) f6 hup (λv z=>nomatch z);have sm2:Same H' (upd H' p (.tup (L7 xs[i]))):=C3 hp _;refine wpAny_pure ⟨rfl,_,_,_,I7,sm.trans sm2,?_⟩;have et:xs.take (i+1)=xs.take i++[xs[i]]:=take_succ_eq_append_getElem hi;rw[et];exact KeysAre.snoc (kk.mono sm2) ⟨p,rfl,A6⟩
 ·rintro t ⟨ks,c,H',It,sm,kk⟩
  rw[Nat.zero_add]at kk;have efull:xs.take vs.toArray.toList.length=xs:=take_of_length_le (by simp[hlen]);rw[efull]at kk;have hkl:ks.length=vs.length:=by rw[←hlen];exact(Paired.length kk).symm
  have hk5:=fP It;have hD5:=fP (fO It);have fin:∀(st:SortSt)(us:List Value),Vals ((G4 B1 xs).map V.str) us->(arrOf st).map (·.2)=toArray us->failedOf st=none->wpAny (model X.prog X.w) X.A (ksk_tail D false e1 (.ref kS) st) P E t:=by
   intro st us hus hst hf;have hul:us.length=vs.length:=by rw[←hus.length,length_map,(dN xs).length_eq,hlen]
   unfold ksk_tail
   try dsimp only
   rw[hst];refine wpAny_bind (listUpdate_at hk5.1 rfl ?_ (by rw[size_toArray,sizeLine_eq];omega) (zero_le _));have f6:E7 X (ζ++[(D,seqObj "list" #[] e1)]) H' kS:=jX (jY fK hDK) hk5.2;have I7:=W4 (h':=t.heap.update kS (Obj.mapSeq λ_=>(#[]:Array Value))) (t':=t.toks) (fO It) f6 λc' o hc q=>(Heap.get?_update_other _ _ (Ne.symm hc)).trans q
   have hD7:=fP I7;refine wpAny_bind (wpAny_letGo ?_);refine wpAny_bind (seqEpoch_at hD7.1 rfl ?_);have hpl:(toArray us).size=vs.length:=by rw[size_toArray,hul]
   have hif:(if false=true then(toArray us).reverse else toArray us)=toArray us:=by simp
   rw[hif];refine wpAny_bind (listUpdate_at hD7.1 rfl ?_ (zero_le _) (by rw[hpl];omega));rw[hf];simp only[bne_self_eq_false,Bool.false_eq_true,if_false];have f8:E7 X ζ H' D:=jX fD hD5.2;have I8:=W4 (h':=(t.heap.update kS (Obj.mapSeq λ_=>(#[]:Array Value))).update D (Obj.mapSeq λ_=>toArray us)) (t':=t.toks) (fO I7) f8 λc' o hc q=>(Heap.get?_update_other _ _ (Ne.symm hc)).trans q
   have hup:=get?_update_seq hD7.1 (λ_=>toArray us);exact wpAny_pure (h _ H' us _ I8 sm hD5.2 hup hus)
  refine wpAny_bind (listItems_at hk5.1 rfl ?_);unfold ksk_end
  try dsimp only
  by_cases h2:vs.length<2
  ·have hs2:vs.toArray.size<2:=by rw[size_toArray];exact h2
   simp only[hs2,if_true,Bool.false_eq_true,if_false];refine wpAny_bind (wpAny_pure ?_);refine wpAny_bind (wpAny_pure ?_);have e0:xs=G4 B1 xs:=bN V6 (List.Perm.refl xs) (pairwise_iff_getElem.mpr λi j hi hj hij=>by omega);refine fin _ vs (by rw[←e0];exact rv) ?_ rfl;show(((toArray ks).zip vs.toArray).map (·.2))=_;apply Array.toList_inj.mp;rw[Array.toList_map,ksk_zip,map_snd_zip (by rw[hkl];exact le_refl _)]
  ·have hs2:¬vs.toArray.size<2:=by rw[size_toArray];exact h2
   simp only[hs2,if_false,Bool.false_eq_true];refine wpAny_bind (Dp It.hok kk (!1) ?_);have hdec:ks.map (Z7 H')=xs:=GB kk;refine wpAny_bind (wpAny_mono (wS (ks:=ks) (vs:=vs) (κ:=tuples' true) (lt:=B1) (Q:=λst' s'=>s'=t/\(arrOf st').toList.Perm (ks.zip vs)/\(arrOf st').toList.map (λz=>Z7 H' z.1)=G4 B1 xs/\failedOf st'=none) (Z7 H') V6 hkl hdec nd (!1) (!1) (λk hk k' hk' C hC=>?_) λst' p1 p2 p3=>⟨rfl,p1,p2,p3⟩) ?_ λ_ _ x=>x)
   ·obtain⟨i,hi,rfl⟩:=getElem_of_mem hk
    obtain⟨j,hj,rfl⟩:=getElem_of_mem hk';obtain⟨p1,e1',q1⟩:=kk.getAt i hi;obtain⟨p2,e2',q2⟩:=kk.getAt j hj;have d1:ks[i]=.ref p1:=by rw[←e1',getD_eq_getElem?_getD,getElem?_eq_getElem hi];rfl
    have d2:ks[j]=.ref p2:=by rw[←e2',getD_eq_getElem?_getD,getElem?_eq_getElem hj];rfl
    rw[d1,d2]at hC ⊢;rw[mK q1,mK q2]at hC;exact Fp It.hok q1 q2 hC
   ·rintro ⟨⟨⟩,st'⟩ s' ⟨rfl,p1,p2,p3⟩
    refine fin st' ((arrOf st').toList.map (·.2)) ?_ (Array.toList_inj.mp (by rw[Array.toList_map])) p3;rw[←p2];refine mL λz hz=>?_
    obtain⟨i,hi,e⟩:=getElem_of_mem (p1.mem_iff.mp hz);rw[List.length_zip]at hi;rw[List.getElem_zip]at e;subst e;have hi':i<xs.length:=by omega
    obtain⟨u,hu,ru⟩:=rv.get (x:=.str xs[i]) (i:=i) (by rw[getElem?_map,getElem?_eq_getElem hi'];rfl);obtain⟨hiv,eu⟩:=List.getElem?_eq_some_iff.mp hu;have ed:Z7 H' ks[i]=xs[i]:=by
     have:=congrArg (λl=>l[i]?) hdec;rw[getElem?_map,getElem?_eq_getElem (!1),getElem?_eq_getElem hi']at this;exact Option.some.inj this
    show L2.RelV (V.str (Z7 H' ks[i])) vs[i];rw[ed,eu];exact ru
end
end Rg
namespace Rg
open PySem PySem.W PyProof.Rows L2
section
variable{L:Nat->Nat->Bool}{D:Nat->Prop}{p:Array Nat}
theorem U2{i:Nat}(h:i<p.size):p[i]?=some (p.getD i 0):=by
 rw[Array.getD_eq_getD_getElem?,Array.getElem?_eq_getElem h];rfl
theorem mM(o:Ord L D)(G:Gd L D p):∀f m:Nat,1<=m->m+f<=p.size->RiseA L p 0 (0+m)->∃m',J9 L (kas_asc p f m)=m'/\m<=m'/\m'<=m+f/\RiseA L p 0 (0+m')/\(m'=m+f∨(m'<m+f/\L (p.getD m' 0) (p.getD (m'-1) 0)=true))
 |0,m,_,_,r=>⟨m,rfl,le_refl _,le_refl _,r,.inl rfl⟩
 |f+1,m,h1,h2,r=>by
  show ∃m',J9 L (if L (p.getD m 0) (p.getD (m-1) 0)=true then KasT.ret m else kas_asc p f (m+1))=m'/\_
  cases z:L (p.getD m 0) (p.getD (m-1) 0)with
  |true=>exact⟨m,rfl,le_refl _,!1,r,.inr ⟨!1,z⟩⟩
  |false=>
   rw[if_neg (!2)];have e1:=U2 (p:=p) (i:=m) (!1);have e2:=U2 (p:=p) (i:=m-1) (!1);obtain⟨m',q1,q2,q3,q4,q5⟩:=mM o G f (m+1) (!1) (!1) (r.snoc o G h1 (by rw[Nat.zero_add];exact e2) (by rw[Nat.zero_add];exact e1) z);exact⟨m',q1,!1,!1,q4,by
    rcases q5 with q5|⟨q5,q6⟩
    ·exact .inl (!1)
    ·exact .inr ⟨!1,q6⟩⟩
theorem wU(o:Ord L D)(G:Gd L D p):∀f m:Nat,2<=m->m+f<=p.size->FallA L p 0 (0+m)->∃m',J9 L (kas_desc f p m 0)=(p,m',0)/\m<=m'/\m'<=m+f/\FallA L p 0 (0+m')
 |0,m,_,_,r=>⟨m,rfl,le_refl _,le_refl _,r⟩
 |f+1,m,h1,h2,r=>by
  have e1:=U2 (p:=p) (i:=m) (!1);have e2:=U2 (p:=p) (i:=m-1) (!1);show ∃m',J9 L (if L (p.getD m 0) (p.getD (m-1) 0)=true then(if 0>0 then kas_desc f (kas_rev p (m-(0+1)) m) (m+1) 0 else kas_desc f p (m+1) 0)else KasT.ask (p.getD (m-1) 0) (p.getD m 0) λd=>if d=true then KasT.ret (p,m,0)else kas_desc f p (m+1) (0+1))=(p,m',0)/\_
  cases z:L (p.getD m 0) (p.getD (m-1) 0)with
  |true=>
   rw[if_pos rfl,if_neg (!1)];obtain⟨m',q1,q2,q3,q4⟩:=wU o G f (m+1) (!1) (!1) (r.snoc o G (!1) (by rw[Nat.zero_add];exact e2) (by rw[Nat.zero_add];exact e1) z);exact⟨m',q1,!1,!1,q4⟩
  |false=>
   rw[if_neg (!2)];have w:L (p.getD (m-1) 0) (p.getD m 0)=true:=by
    rcases G.un (i:=m-1) (j:=m) (!1) e2 e1 with w|w
    ·exact w
    ·rw[w]at z;cases z
   show ∃m',J9 L (if L (p.getD (m-1) 0) (p.getD m 0)=true then KasT.ret (p,m,0)else kas_desc f p (m+1) (0+1))=(p,m',0)/\_
   rw[w,if_pos rfl];exact⟨m,rfl,le_refl _,!1,r⟩
theorem GC(o:Ord L D)(G:Gd L D p){n:Nat}(hn:n=p.size)(h1:1<=n):∃m p',J9 L (kas_count n p)=(m,p')/\1<=m/\m<=n/\p'.toList.Perm p.toList/\RiseA L p' 0 (0+m):=by
 unfold kas_count;rw[X6];obtain⟨m,e,a1,a2,a3,a4⟩:=mM o G (n-1) 1 (le_refl 1) (!1) RiseA.one;rw[e];by_cases hm:(m==n)=true
 ·rw[if_pos hm]
  have:m=n:=by simpa using hm
  exact⟨m,p,rfl,a1,!1,List.Perm.refl _,a3⟩
 rw[if_neg hm];have hm':¬m=n:=by simpa using hm
 have hbr:L (p.getD m 0) (p.getD (m-1) 0)=true:=by
  rcases a4 with z|z
  ·omega
  ·exact z.2
 by_cases hg:m>1
 ·rw[if_pos hg]
  have e0:=U2 (p:=p) (i:=0) (!1);have e1:=U2 (p:=p) (i:=m-1) (!1);have rs:L (p.getD 0 0) (p.getD (m-1) 0)=true:=by
   rcases G.un (i:=0) (j:=m-1) (!1) e0 e1 with z|z
   ·exact z
   ·rw[a3 0 (m-1) _ _ (le_refl _) (!1) (!1) e0 e1]at z;cases z
  show ∃m' p',J9 L (if L (p.getD 0 0) (p.getD (m-1) 0)=true then KasT.ret (m,p)else kas_descPart m n (kas_rev p 0 m))=(m',p')/\_
  rw[rs,if_pos rfl];exact⟨m,p,rfl,a1,!1,List.Perm.refl _,a3⟩
 ·rw[if_neg hg]
  have m1:m=1:=by omega
  subst m1;have f2:FallA L p 0 (0+(1+1)):=by
   intro i j x y h1 h2 h3 ex ey;have hi:i=0:=by omega
   have hj:j=1:=by omega
   subst hi hj;rw[U2 (!1)]at ex ey;cases ex;cases ey;exact hbr
  unfold kas_descPart;rw[X6];obtain⟨m,e,b1,b2,b3⟩:=wU o G (n-(1+1)) (1+1) (le_refl 2) (!1) f2;rw[e];dsimp only;rw[if_neg (!1)];unfold kas_tail3;rw[X6];have hz:0+m<=p.size:=by omega
  have sg:=wL (a:=p) (lo:=0) (n:=m) hz;have rr:=wM o G hz b3;have ek:kas_rev p 0 m=mirror p 0 (0+m) ((0+m-0) / 2):=by unfold kas_rev;rw[Nat.zero_add]
  rw[ek];generalize mirror p 0 (0+m) ((0+m-0) / 2)=p2 at sg rr ⊢;have G2:=G.perm sg.pm;have sz:=sg.size;obtain⟨m2,e2,c1,c2,c3,_⟩:=mM o G2 (n-m) m (!1) (!1) rr;rw[e2];exact⟨m2,p2,rfl,!1,!1,sg.pm,c3⟩
theorem mO(o:Ord L D)(G:Gd L D p){k:Nat}(hk:k<p.size)(rb:RiseA L p 0 (0+k)):∀f l r:Nat,l<=r->r<=k->r-l<=f->(∀j x,j<l->p[0+j]?=some x->L (p.getD k 0) x=false)->(∀j x,r<=j->j<k->p[0+j]?=some x->L (p.getD k 0) x=true)->
  ∃l',J9 L (kas_place p k f l r)=l'/\l'<=k/\(∀j x,j<l'->p[0+j]?=some x->L (p.getD k 0) x=false)/\(∀j x,l'<=j->j<k->p[0+j]?=some x->L (p.getD k 0) x=true)
 |0,l,r,h1,h2,h3,h4,h5=>by
  have:l=r:=by omega
  subst this;exact⟨l,rfl,h2,h4,h5⟩
 |f+1,l,r,h1,h2,h3,h4,h5=>by
  unfold kas_place;by_cases hge:l ≥ r
  ·rw[if_pos hge]
   have:l=r:=by omega
   subst this;exact⟨l,rfl,h2,h4,h5⟩
  ·rw[if_neg hge]
   have ev:=U2 (p:=p) (i:=k) hk;have eu:=U2 (p:=p) (i:=(l+r) / 2) (!1);show ∃l',J9 L (if L (p.getD k 0) (p.getD ((l+r) / 2) 0)=true then kas_place p k f l ((l+r) / 2)else kas_place p k f ((l+r) / 2+1) r)=l'/\_
   cases z:L (p.getD k 0) (p.getD ((l+r) / 2) 0)with
   |true=>
    rw[if_pos rfl];refine mO o G hk rb f l ((l+r) / 2) (!1) (!1) (!1) h4 λj x hj hj' ex=>?_
    rw[Nat.zero_add]at ex;rcases lt_or_ge ((l+r) / 2) j with w|w
    ·cases y:L (p.getD k 0) x with
     |true=>rfl
     |false=>
      have:=o.tr (G.at eu) (G.at ex) (G.at ev) (rb ((l+r) / 2) j _ x (!1) w (!1) eu ex) y;rw[this]at z;cases z
    ·have:j=(l+r) / 2:=by omega
     subst this;rw[eu]at ex;cases ex;exact z
   |false=>
    rw[if_neg (!2)];refine mO o G hk rb f ((l+r) / 2+1) r (!1) (!1) (!1) (λj x hj ex=>?_) h5;rw[Nat.zero_add]at ex;rcases lt_or_ge j ((l+r) / 2)with w|w
    ·exact o.tr (G.at ex) (G.at eu) (G.at ev) (rb j ((l+r) / 2) x _ (!1) w (!1) ex eu) z
    ·have:j=(l+r) / 2:=by omega
     subst this;rw[eu]at ex;cases ex;exact z
theorem wV(o:Ord L D):∀(f:Nat)(p:Array Nat)(k:Nat),Gd L D p->k+f=p.size->RiseA L p 0 (0+k)->∃p',J9 L (kas_bin f p k)=p'/\p'.toList.Perm p.toList/\RiseA L p' 0 (0+(k+f))
 |0,p,k,G,h,r=>⟨p,rfl,List.Perm.refl _,r⟩
 |f+1,p,k,G,h,r=>by
  show ∃p',J9 L ((kas_place p k k 0 k).bind λl=>kas_bin f (bubble p k (k-l)) (k+1))=p'/\_
  rw[X6];obtain⟨l,e,h1,h2,h3⟩:=mO o G (!1) r k 0 k (!1) (le_refl _) (!1) (λj x hj=>by omega) (λj x hj hj'=>by omega);rw[e];have hz:0+k<p.size:=by omega
  have sg:=wO (a:=p) (lo:=0) (k:=k) (l:=l) hz h1;have rr:=wP o G hz h1 r (by rw[Nat.zero_add];exact U2 (!1)) h2 h3;rw[show 0+k-(0+l)=k-l by omega,Nat.zero_add]at sg rr;obtain⟨p',e2,q1,q2⟩:=wV o f (bubble p k (k-l)) (k+1) (G.perm sg.pm) (by rw[sg.size];omega) (by rw[Nat.zero_add];rw[Nat.zero_add]at rr;exact rr);exact⟨p',e2,q1.trans sg.pm,by rw[show k+(f+1)=k+1+f by omega];exact q2⟩
end
theorem mQ{xs:List Str}(nd:xs.Nodup):B8 xs=G4 B1 xs:=by
 by_cases h2:xs.length<2
 ·have e1:B8 xs=xs:=wC λi hi=>by omega
  rw[e1];exact bN V6 (List.Perm.refl _) (pairwise_iff_getElem.mpr λi j hi hj hij=>by omega)
 ·refine bN V6 (N6 xs) ?_
  have o:Ord (λi j=>B1 (xs.getD i Str.empty) (xs.getD j Str.empty)) (λi=>i<xs.length):=⟨λ_ _ h=>V6.asy h,λ_ _ _ h1 h2=>V6.tr h1 h2⟩;have gx:∀{i:Nat},i<xs.length->xs.getD i Str.empty=xs[i]!:=λ{i} hi=>by rw[getD_eq_getElem?_getD,getElem?_eq_getElem hi];simp[hi]
  have G:Gd (λi j=>B1 (xs.getD i Str.empty) (xs.getD j Str.empty)) (λi=>i<xs.length) (toArray (List.range xs.length)):=by
   refine⟨λx hx=>by simpa using hx,?_⟩;refine pairwise_iff_getElem.mpr λi j hi hj hij=>?_
   have hi':i<xs.length:=by simpa using hi
   have hj':j<xs.length:=by simpa using hj
   have e1:(toArray (List.range xs.length)).toList[i]=i:=by simp
   have e2:(toArray (List.range xs.length)).toList[j]=j:=by simp
   rw[e1,e2];have hne:xs.getD i Str.empty≠xs.getD j Str.empty:=by
    rw[getD_eq_getElem?_getD,getD_eq_getElem?_getD,getElem?_eq_getElem hi',getElem?_eq_getElem hj'];exact pairwise_iff_getElem.mp nd i j hi' hj' hij
   cases h1:B1 (xs.getD i Str.empty) (xs.getD j Str.empty)with
   |true=>exact .inl rfl
   |false=>
    cases h2:B1 (xs.getD j Str.empty) (xs.getD i Str.empty)with
    |true=>exact .inr rfl
    |false=>exact absurd (V6.an h1 h2) hne
  have ep:∃p':Array Nat,Z0 xs=p'.toList/\p'.size=xs.length/\RiseA (λi j=>B1 (xs.getD i Str.empty) (xs.getD j Str.empty)) p' 0 (0+xs.length):=by
   unfold Z0;rw[if_neg h2];unfold kas_sort;rw[X6];obtain⟨m,p1,e,a1,a2,a3,a4⟩:=GC o G (n:=xs.length) (!2) (!1);rw[e];have sz:p1.size=xs.length:=by
    have:=a3.length_eq;simpa using this
   by_cases hm:m<xs.length
   ·rw[if_pos hm,show max m 1=m by omega]
    obtain⟨p',e2,q1,q2⟩:=wV o (xs.length-m) p1 m (G.perm a3) (!1) a4;have sz2:p'.size=xs.length:=by
     have:=q1.length_eq;rw[Array.length_toList,Array.length_toList]at this;omega
    exact⟨p',by rw[←e2],sz2,by rw[show m+(xs.length-m)=xs.length by omega]at q2;exact q2⟩
   ·rw[if_neg hm]
    have:m=xs.length:=by omega
    subst this;exact⟨p1,rfl,sz,a4⟩
  obtain⟨p',e,sz,r⟩:=ep;unfold B8;rw[e];refine List.pairwise_map.mpr ?_;have:=r.list;rw[drop_zero,take_of_length_le (by rw[Array.length_toList];omega)]at this;exact this
end Rg
namespace Rg
open PySem L2
mutual
def Th.Gn:Th->Prop
 |.num i=>i.natAbs<10^60
 |.word x=>D7 x=true
 |.row l=>l.GnR
 |.dic l=>l.len<=100/\l.keys.Nodup/\l.GnD
def Ts.GnR:Ts->Prop
 |.nil=>True
 |.cons k t r=>k=Str.empty/\t.Gn/\r.GnR
def Ts.GnD:Ts->Prop
 |.nil=>True
 |.cons k t r=>D7 k=true/\t.Gn/\r.GnD
end
theorem dO:∀{l:Ts},l.GnR->∀p∈l.toL,p.1=Str.empty/\p.2.Gn
 |.nil,_,p,h=>by cases h
 |.cons k t r,hg,p,h=>by
  obtain⟨h1,h2,h3⟩:=hg;rcases mem_cons.mp h with rfl|z
  ·exact⟨h1,h2⟩
  ·exact dO h3 p z
theorem Y1:∀{l:Ts},l.GnD->∀p∈l.toL,D7 p.1=true/\p.2.Gn
 |.nil,_,p,h=>by cases h
 |.cons k t r,hg,p,h=>by
  obtain⟨h1,h2,h3⟩:=hg;rcases mem_cons.mp h with rfl|z
  ·exact⟨h1,h2⟩
  ·exact Y1 h3 p z
theorem Y2:∀(l:Ts){k:Str},k∈l.keys->(k,l.fld k)∈l.toL
 |.nil,k,h=>by cases h
 |.cons j t r,k,h=>by
  have h':k∈j::r.keys:=h;unfold Ts.fld;by_cases e:j=k
  ·rw[if_pos e,e];exact mem_cons_self
  ·rw[if_neg e]
   rcases mem_cons.mp h' with z|z
   ·exact absurd z.symm e
   ·exact mem_cons_of_mem _ (Y2 r z)
theorem hV{l:Ts}(nd:l.keys.Nodup):(E1 (.dic l)).Perm l.toL:=by
 have z:=(N6 l.keys).map λk=>(k,l.fld k)
 rw[fZ l nd]at z;exact z
theorem mS{t:Th}(h:t.Gn):∀p∈E1 t,p.2.Gn:=by
 cases t with
 |num i=>intro p hp;cases hp
 |word x=>intro p hp;cases hp
 |row l=>
  intro p hp;obtain⟨q,h1,rfl⟩:=mem_map.mp hp;exact(dO h q h1).2
 |dic l=>
  intro p hp;exact(Y1 h.2.2 p ((hV h.2.1).mem_iff.mp hp)).2
theorem mU{t:Th}(h:t.Gn):t.size=1+((E1 t).map λp=>p.2.size).sum:=by
 cases t with
 |num i=>rfl
 |word x=>rfl
 |row l=>
  show l.size+1=1+((l.toL.map λp=>(Str.empty,p.2)).map λp=>p.2.size).sum;rw[map_map,aU,Nat.add_comm];rfl
 |dic l=>
  show l.size+1=1+_;rw[((hV h.2.1).map λp=>p.2.size).sum_nat,aU,Nat.add_comm]
theorem bO{d:Nat}:∀{l:Ts},l.dp<=d↔∀p∈l.toL,p.2.dp<=d
 |.nil=>⟨λ_ p h=>absurd h (by show ¬p∈[];simp),λ_=>zero_le _⟩
 |.cons k t r=>by
  show max t.dp r.dp<=d↔_;rw[Nat.max_le,bO (l:=r)];exact⟨λh p hp=>(mem_cons.mp hp).elim (λe=>by rw[e];exact h.1) (h.2 p),λh=>⟨h _ mem_cons_self,λp hp=>h p (mem_cons_of_mem _ hp)⟩⟩
theorem wW:∀(ps:List (Str×Th))(last:Str),(∀p∈ps,D7 p.1=true/\p.2.Wf/\B1 last p.1=true)->(ps.map (·.1)).Pairwise (λx y=>B1 x y=true)->(Ts.ofL ps).WfD last
 |[],_,_,_=>trivial
 |p::r,last,h,hp=>by
  obtain⟨h1,h2,h3⟩:=h p mem_cons_self;have hp':=List.pairwise_cons.mp (show((p.1::r.map (·.1)):List Str).Pairwise _ from hp);exact⟨h1,h3,h2,wW r p.1 (λq hq=>⟨(h q (mem_cons_of_mem _ hq)).1,(h q (mem_cons_of_mem _ hq)).2.1,hp'.1 q.1 (mem_map.mpr ⟨q,hq,rfl⟩)⟩) hp'.2⟩
theorem GD{xs:List Str}(nd:xs.Nodup):(B8 xs).Pairwise λx y=>B1 x y=true:=by
 have h1:(B8 xs).Pairwise λx y=>B1 y x=false:=by rw[mQ nd];exact mJ V6 xs
 have h2:(B8 xs).Pairwise (·≠·):=(N6 xs).nodup_iff.mpr nd;refine(h1.and h2).imp λ{x y} h=>?_
 cases z:B1 x y with
 |true=>rfl
 |false=>exact absurd (V6.an z h.1) h.2
theorem GE{k:Str}(h:D7 k=true):B1 Str.empty k=true:=by
 unfold D7 at h;simp only[Bool.and_eq_true,decide_eq_true_eq]at h;exact wE.mpr (.inl (by show 0<_;omega))
mutual
theorem bP:∀t:Th,t.Gn->(B6 t).Wf
 |.num i,h=>h
 |.word x,h=>h
 |.row l,h=>wX l h
 |.dic l,h=>by
  obtain⟨_,nd,hg⟩:=(h:l.len<=100/\l.keys.Nodup/\l.GnD);show(Ts.ofL ((B8 l.keys).map λk=>(k,(D9 l).fld k))).WfD Str.empty;refine wW _ _ (λp hp=>?_) ?_
  ·obtain⟨k,hk,rfl⟩:=mem_map.mp hp
   have hk':=(N6 l.keys).mem_iff.mp hk;have hn:=(Y1 hg _ (Y2 l hk')).1;exact⟨hn,wY l hg hk',GE hn⟩
  ·rw[map_map]
   have:(λk=>(k,(D9 l).fld k).1)=(id:Str->Str):=rfl;show((B8 l.keys).map id).Pairwise _;rw[map_id];exact GD nd
theorem wX:∀l:Ts,l.GnR->(G5 l).WfR
 |.nil,_=>trivial
 |.cons k t r,h=>⟨rfl,bP t h.2.1,wX r h.2.2⟩
theorem wY:∀l:Ts,l.GnD->∀{k:Str},k∈l.keys->((D9 l).fld k).Wf
 |.nil,_,k,h=>by cases h
 |.cons j t r,hg,k,h=>by
  have h':k∈j::r.keys:=h;show(Ts.fld k (.cons j (B6 t) (D9 r))).Wf;unfold Ts.fld;by_cases e:j=k
  ·rw[if_pos e];exact bP t hg.2.1
  ·rw[if_neg e]
   rcases mem_cons.mp h' with z|z
   ·exact absurd z.symm e
   ·exact wY r hg.2.2 z
end
mutual
theorem Z8:∀t:Th,t.Gn->(B6 t).size=t.size
 |.num i,_=>rfl
 |.word x,_=>rfl
 |.row l,h=>by show(G5 l).size+1=l.size+1;rw[wZ l h]
 |.dic l,h=>by
  obtain⟨_,nd,hg⟩:=(h:l.len<=100/\l.keys.Nodup/\l.GnD);show(Ts.ofL ((B8 l.keys).map λk=>(k,(D9 l).fld k))).size+1=l.size+1;rw[aU,cQ];have e1:((B8 l.keys).map λk=>(k,(D9 l).fld k)).Perm (D9 l).toL:=by
   have z:=(N6 l.keys).map λk=>(k,(D9 l).fld k)
   rw[←kK l]at z ⊢;rw[fZ (D9 l) (by rw[kK];exact nd)]at z;exact z
  rw[(e1.map λp=>p.2.size).sum_nat,←aU,xA l hg]
theorem wZ:∀l:Ts,l.GnR->(G5 l).size=l.size
 |.nil,_=>rfl
 |.cons k t r,h=>by
  show(B6 t).size+(G5 r).size=t.size+r.size;rw[Z8 t h.2.1,wZ r h.2.2]
theorem xA:∀l:Ts,l.GnD->(D9 l).size=l.size
 |.nil,_=>rfl
 |.cons k t r,h=>by
  show(B6 t).size+(D9 r).size=t.size+r.size;rw[Z8 t h.2.1,xA r h.2.2]
end
mutual
theorem mV:∀(t:Th){d:Nat},t.dp<=d->(B6 t).dp<=d
 |.num i,d,h=>h
 |.word x,d,h=>h
 |.row l,d,h=>by
  have h':l.dp+1<=d:=h;show(G5 l).dp+1<=d;have:=xB l (d:=d-1) (!1);omega
 |.dic l,d,h=>by
  have h':l.dp+1<=d:=h;show(Ts.ofL ((B8 l.keys).map λk=>(k,(D9 l).fld k))).dp+1<=d;have:(Ts.ofL ((B8 l.keys).map λk=>(k,(D9 l).fld k))).dp<=d-1:=by
   rw[bO,cQ];intro p hp;obtain⟨k,hk,rfl⟩:=mem_map.mp hp;exact xD l (d:=d-1) (!1) ((N6 l.keys).mem_iff.mp hk)
  omega
theorem xB:∀(l:Ts){d:Nat},l.dp<=d->(G5 l).dp<=d
 |.nil,d,h=>h
 |.cons k t r,d,h=>by
  have h':max t.dp r.dp<=d:=h;show max (B6 t).dp (G5 r).dp<=d;exact Nat.max_le.mpr ⟨mV t (Nat.max_le.mp h').1,xB r (Nat.max_le.mp h').2⟩
theorem xD:∀(l:Ts){d:Nat},l.dp<=d->∀{k:Str},k∈l.keys->((D9 l).fld k).dp<=d
 |.nil,_,_,k,h=>by cases h
 |.cons j t r,d,hd,k,h=>by
  have hd':max t.dp r.dp<=d:=hd;have h':k∈j::r.keys:=h;show(Ts.fld k (.cons j (B6 t) (D9 r))).dp<=d;unfold Ts.fld;by_cases e:j=k
  ·rw[if_pos e];exact mV t (Nat.max_le.mp hd').1
  ·rw[if_neg e]
   rcases mem_cons.mp h' with z|z
   ·exact absurd z.symm e
   ·exact xD r (Nat.max_le.mp hd').2 z
end
mutual
theorem hZ:∀t:Th,t.Wf->B6 t=t
 |.num i,_=>rfl
 |.word x,_=>rfl
 |.row l,h=>by show Th.row (G5 l)=_;rw[xE l h]
 |.dic l,h=>by
  obtain⟨_,h2,h3⟩:=mE (h:l.WfD Str.empty);show Th.dic (Ts.ofL ((B8 l.keys).map λk=>(k,(D9 l).fld k)))=_;rw[wC h3,xF l h,fZ l h2,kJ]
theorem xE:∀l:Ts,l.WfR->G5 l=l
 |.nil,_=>rfl
 |.cons k t r,h=>by
  obtain⟨rfl,h1,h2⟩:=h;show Ts.cons Str.empty (B6 t) (G5 r)=_;rw[hZ t h1,xE r h2]
theorem xF:∀(l:Ts){last:Str},l.WfD last->D9 l=l
 |.nil,_,_=>rfl
 |.cons k t r,last,h=>by
  obtain⟨_,_,h1,h2⟩:=h;show Ts.cons k (B6 t) (D9 r)=_;rw[hZ t h1,xF r h2]
end
mutual
theorem dP:∀t:Th,t.Wf->t.size<=100->t.Gn
 |.num i,h,_=>h
 |.word x,h,_=>h
 |.row l,h,hs=>xG l h (by have:l.size+1<=100:=hs;omega)
 |.dic l,h,hs=>by
  have hs':l.size+1<=100:=hs;have:=X7 l;exact⟨!1,(mE (h:l.WfD Str.empty)).2.1,xH l h (!1)⟩
theorem xG:∀l:Ts,l.WfR->l.size<=100->l.GnR
 |.nil,_,_=>trivial
 |.cons k t r,h,hs=>by
  obtain⟨h0,h1,h2⟩:=h;have hs':t.size+r.size<=100:=hs;exact⟨h0,dP t h1 (!1),xG r h2 (!1)⟩
theorem xH:∀(l:Ts){last:Str},l.WfD last->l.size<=100->l.GnD
 |.nil,_,_,_=>trivial
 |.cons k t r,last,h,hs=>by
  obtain⟨h0,_,h1,h2⟩:=h;have hs':t.size+r.size<=100:=hs;exact⟨h0,dP t h1 (!1),xH r h2 (!1)⟩
end
end Rg
namespace Rg
open PySem PySem.W PySem.Spec PyProof.Rows L2
theorem xI:∀(l:List Str)(m:List Value),l.length=m.length->(∀(j:Nat)(x:Str)(v:Value),l[j]?=some x->m[j]?=some v->∃t,v=Value.str x t)->Vals (l.map V.str) m
 |[],[],_,_=>.nil
 |[],_::_,h,_=>by simp at h
 |_::_,[],h,_=>by simp at h
 |x::l,v::m,h,hj=>.cons (hj 0 x v rfl rfl) (xI l m (by simpa using h) λj y w h1 h2=>hj (j+1) y w (by simpa using h1) (by simpa using h2))
section
variable{X:Cx}
theorem GF(hc:X.calm=true):QC X (.type "list") (λvs H Q=>∃(a:Addr)(kvs:List (A4×V))(xs:List Str),vs=[.ref a]/\H a=some (.dK kvs)/\kvs.map (·.1)=xs.map Sum.inr/\∀l,H l=none->Q (.ref l) (upd H l (.lst (xs.map V.str)))):=⟨by
 intro ζ s σ H vs us Q I rv h;obtain⟨a,kvs,xs,rfl,ha,hkeys,q⟩:=h;obtain⟨u,rfl,ru⟩:=M3 rv;cases ru;obtain⟨zl,hd,dvs,rel,dd⟩:=T8 I.hok ha;obtain⟨ep,dat⟩:=dd.dictAt;have hlen:=rel.length;have hkv:kvs.map (·.1)=dvs.map (·.1):=rel.keys;have hxl:xs.length=kvs.length:=by
  have z:=congrArg length hkeys;rw[length_map,length_map]at z;exact z.symm
 refine kdl_call (kdl_dict hd) (I.ok.hd hc) dat (by rw[←hlen];exact zl) λh' tk acc c' kp e items=>?_
 have hacc:acc.toList.length=kvs.length:=by rw[Array.length_toList,items.1,hlen]
 have rvs:Vals (xs.map V.str) acc.toList:=xI xs acc.toList (!1) λj x v q1 q2=>by
  obtain⟨k',y,e1,e2⟩:=items.2 j v (by rw[←Array.getElem?_toList];exact q2);have e3:(dvs.map (·.1))[j]?=some k':=by rw[getElem?_map,e1];rfl
  rw[←hkv,hkeys,getElem?_map,q1]at e3;have e4:Sum.inr x=k':=Option.some.inj e3;subst e4;exact Value.isStrOf_shape (x:=x) (v:=v) e2
 exact⟨.ref s.heap.objs.size,_,I.laid (t':=tk) kp (le_refl _) (show ObjOk X.prog X.w _ h' _ (.lst (xs.map V.str))from⟨by rw[length_map,hxl];exact zl,acc.toList,c',rvs,by rw[Array.toArray_toList];exact e⟩),rfl,q _ (I.hok.fresh (le_refl _))⟩⟩
variable{f:Addr}{k:Nat}{fd:FuncData}{wd:Str}{sp:Sp}
end
end Rg
namespace Rg
open PySem PySem.W PySem.Spec PyProof.Rows L2
def GG(sp:Sp)(f:Addr):List V->List V->Hp->VK->Prop:=λvs zs H Q=>∃a kvs,vs=[.ref a]/\zs=[.ref f]/\H a=some (.dK kvs)/\(∀(H':Hp)(vs:List V)(Q:VK)(E:XK),Same H H'->W3 vs H' Q E->sp vs H' Q E)/\kvs.length<128/\(∃xs:List Str,kvs.map (·.1)=xs.map Sum.inr/\xs.Nodup/\(∀x∈xs,x.length<=1000)/\
 ∀(q:Addr)(H':Hp),Same H H'->H' q=some (.lst ((B8 xs).map V.str))->Q (.ref q) H')
section
variable{X:Cx}{f:Addr}{k:Nat}{fd:FuncData}{wd:Str}{sp:Sp}
theorem GH(hc:X.calm=true)(hne:∀e s,X.xe e s->False)(F:FnOk X.prog X.w X.K X.mg X.base B9 k f fd [wd] sp)(hr:Room (k+1+1) X.A)(hb:Binds X.K fd [wd] []):fQ X "sorted" [Str.ofString "key"] (GG sp f):=by
 intro ζ s σ H vs zs us ws Q I rv rz h;obtain⟨a,kvs,rfl,rfl,ha,hsp,h64,xs,hkeys,nd,hx,q⟩:=h;obtain⟨u,rfl,ru⟩:=M3 rv;obtain⟨u2,rfl,ru2⟩:=M3 rz;cases ru;cases ru2;obtain⟨zl,hd,dvs,rel,dd⟩:=T8 I.hok ha;obtain⟨ep,dat⟩:=dd.dictAt;have hlen:=rel.length;have hkv:kvs.map (·.1)=dvs.map (·.1):=rel.keys;show wpAny _ _ (call (.builtin "sorted") [.ref a] [(Str.ofString "key",.ref f)]) _ _ s;refine call_function_entry_kw kind_sorted plain_sorted entry_sorted (ksk_s1 _ _) ?_;unfold Builtin.«sorted»;refine wpAny_bind (m:=checkCount "sorted" 1 1 _) (wpAny_pure ?_);refine wpAny_bind (kdu_collect (kdl_dict hd) (show X.A.in1.handled=none from I.ok.hd hc) dat (by rw[←hlen];exact zl) λh1 tk acc hk items=>?_);have I1:Inv X ζ σ H {s with heap:=h1,toks:=tk}:=I.kept hk;have hacc:acc.toList.length=kvs.length:=by rw[Array.length_toList,items.1,hlen]
 have hxl:xs.length=kvs.length:=by
  have z:=congrArg length hkeys;rw[length_map,length_map]at z;exact z.symm
 have rvs:Vals (xs.map V.str) acc.toList:=by
  have key:∀(l:List Str)(m:List Value),l.length=m.length->(∀(j:Nat)(x:Str)(v:Value),l[j]?=some x->m[j]?=some v->∃t,v=Value.str x t)->Vals (l.map V.str) m:=by
   intro l
   induction l with
   |nil=>intro m hm _;cases m with
    |nil=>exact .nil
    |cons _ _=>simp at hm
   |cons x l ih=>intro m hm hj;cases m with
    |nil=>simp at hm
    |cons v m=>exact .cons (hj 0 x v rfl rfl) (ih m (by simpa using hm) λj y w h1 h2=>hj (j+1) y w (by simpa using h1) (by simpa using h2))
  refine key xs acc.toList (!1) λj x v q1 q2=>?_
  obtain⟨k',y,e1,e2⟩:=items.2 j v (by rw[←Array.getElem?_toList];exact q2);have e3:(dvs.map (·.1))[j]?=some k':=by rw[getElem?_map,e1];rfl
  rw[←hkv,hkeys,getElem?_map,q1]at e3;have e4:Sum.inr x=k':=Option.some.inj e3;subst e4;exact Value.isStrOf_shape (x:=x) (v:=v) e2
 refine wpAny_bind (wpAny_newList ?_ (by rw[hacc];exact zl));have I2:Inv X ζ σ H {s with heap:=h1.push {cls:=.type "list",data:=.seq acc.toList.toArray},toks:=tk}:=I1.kept λb o z=>Heap.get?_push_of_some _ z
 have fD:E7 X ζ H h1.objs.size:=I1.fpOk (le_refl _) (I1.hok.fresh (le_refl _));have hD:(h1.push {cls:=.type "list",data:=.seq acc.toList.toArray}).get? h1.objs.size=some (seqObj "list" (toArray acc.toList) 0):=Heap.get?_push_size _ rfl;refine wpAny_bind (wpAny_holding (wpAny_call_entry_kw slot_list_sort ⟨_,hD,rfl⟩ entry_list_sort ?body (ksk_l1 _ _)))
 case body=>
  show wpAny (model X.prog X.w) X.A.in1.in1 (Builtin.«list.sort» ⟨[.ref h1.objs.size],[(Str.ofString "key",.ref f)]⟩) _ _ _;rw[ksk_t1];refine wT (X:=Y8 X) (jU I2) hD fD rvs hx (!1) nd hne F hsp hr.in1.in1 hb λs' H' us' n' I' sm hn' hD' rv'=>?_
  rw[←mQ nd]at rv';refine⟨_,rfl,wpAny_pure ⟨_,rfl,?_⟩⟩;have fD':E7 X ζ H' h1.objs.size:=⟨hn',fD.2⟩;refine⟨.ref h1.objs.size,upd H' h1.objs.size (.lst ((B8 xs).map V.str)),cN (jV I') fD' I1.sz ?_,rfl,q _ _ (sm.trans (C3 hn' _)) A6⟩;refine⟨by rw[length_map,(N6 xs).length_eq,hxl];exact zl,us',n',rv',hD'⟩
end
section
variable{X:Cx}{f:Addr}{k:Nat}{fd:FuncData}{wd:Str}{sp:Sp}
def GI(K:Frag)(sp:Sp)(f:Addr):List V->List V->Hp->VK->Prop:=λvs zs H Q=>∃(a:Addr)(xs:List Str),vs=[.ref a]/\zs=[.ref f]/\SqL K H a (xs.map V.str)/\(∀(H':Hp)(vs:List V)(Q:VK)(E:XK),Same H H'->W3 vs H' Q E->sp vs H' Q E)/\xs.length<128/\xs.Nodup/\(∀x∈xs,x.length<=1000)/\
 ∀(q:Addr)(H':Hp),Same H H'->H' q=some (.lst ((B8 xs).map V.str))->Q (.ref q) H'
theorem GJ(hc:X.calm=true)(hne:∀e s,X.xe e s->False)(F:FnOk X.prog X.w X.K X.mg X.base B9 k f fd [wd] sp)(hr:Room (k+1+1) X.A)(hb:Binds X.K fd [wd] []):fQ X "sorted" [Str.ofString "key"] (GI X.K sp f):=by
 intro ζ s σ H vs zs us ws Q I rv rz h;obtain⟨a,xs,rfl,rfl,ha,hsp,h64,nd,hx,q⟩:=h;obtain⟨u,rfl,ru⟩:=M3 rv;obtain⟨u2,rfl,ru2⟩:=M3 rz;cases ru;cases ru2;obtain⟨its,rvs,pl,hz⟩:=I.list ha;rw[length_map]at hz;have hil:its.length=xs.length:=by rw[←rvs.length,length_map]
 show wpAny _ _ (call (.builtin "sorted") [.ref a] [(Str.ofString "key",.ref f)]) _ _ s;refine call_function_entry_kw kind_sorted plain_sorted entry_sorted (ksk_s1 _ _) ?_;unfold Builtin.«sorted»;refine wpAny_bind (m:=checkCount "sorted" 1 1 _) (wpAny_pure ?_);refine wpAny_bind (collect_list pl.isList ?_ (!1));have hk:∀b o,s.heap.get? b=some o->((s.heap.push (seqObj "list" #[] 0)).update s.heap.objs.size (Obj.mapSeq (·++its.toArray))).get? b=some o:=λb o e=>
  (Heap.get?_update_other _ _ (Ne.symm (ne_of_lt (Heap.lt_size e)))).trans (Heap.get?_push_of_some _ e)
 generalize (s.heap.push (seqObj "list" #[] 0)).update s.heap.objs.size (Obj.mapSeq (·++its.toArray))=h1 at hk ⊢;have I1:Inv X ζ σ H {s with heap:=h1,toks:=s.toks}:=I.kept hk;refine wpAny_bind (wpAny_newList ?_ (!1));have I2:Inv X ζ σ H {s with heap:=h1.push {cls:=.type "list",data:=.seq its.toArray},toks:=s.toks}:=I1.kept λb o z=>Heap.get?_push_of_some _ z
 have fD:E7 X ζ H h1.objs.size:=I1.fpOk (le_refl _) (I1.hok.fresh (le_refl _));have hD:(h1.push {cls:=.type "list",data:=.seq its.toArray}).get? h1.objs.size=some (seqObj "list" (toArray its) 0):=Heap.get?_push_size _ rfl;refine wpAny_bind (wpAny_holding (wpAny_call_entry_kw slot_list_sort ⟨_,hD,rfl⟩ entry_list_sort ?body (ksk_l1 _ _)))
 case body=>
  show wpAny (model X.prog X.w) X.A.in1.in1 (Builtin.«list.sort» ⟨[.ref h1.objs.size],[(Str.ofString "key",.ref f)]⟩) _ _ _;rw[ksk_t1];refine wT (X:=Y8 X) (jU I2) hD fD rvs hx h64 nd hne F hsp hr.in1.in1 hb λs' H' us' n' I' sm hn' hD' rv'=>?_
  rw[←mQ nd]at rv';refine⟨_,rfl,wpAny_pure ⟨_,rfl,?_⟩⟩;have fD':E7 X ζ H' h1.objs.size:=⟨hn',fD.2⟩;refine⟨.ref h1.objs.size,upd H' h1.objs.size (.lst ((B8 xs).map V.str)),cN (jV I') fD' I1.sz ?_,rfl,q _ _ (sm.trans (C3 hn' _)) A6⟩;refine⟨by rw[length_map,(N6 xs).length_eq];omega,us',n',rv',hD'⟩
end
end Rg
namespace Rg
open PySem L2
def F0(b:Bool):List (Str×Th)->Bool->List Th
 |[],_=>[]
 |c::r,f=>(if f then[]else[.word ", "])++((if b then[.word (c.1++": ")]else[])++(c.2::F0 b r false))
def S8:Th->List Th
 |.row l=>.word "["::(F0 false (E1 (.row l)) true++[.word "]"])
 |.dic l=>.word "{"::(F0 true (E1 (.dic l)) true++[.word "}"])
 |t=>[t]
theorem xJ(b:Bool)(c:Str×Th):∀(cs:List (Str×Th))(f:Bool),F0 b (cs++[c]) f=F0 b cs f++((if(f&&cs.isEmpty)=true then[]else[.word ", "])++((if b then[.word (c.1++": ")]else[])++[c.2]))
 |[],f=>by cases f<;>rfl
 |d::cs,f=>by
  show(if f then[]else[.word ", "])++((if b then[.word (d.1++": ")]else[])++(d.2::F0 b (cs++[c]) false))=((if f then[]else[.word ", "])++((if b then[.word (d.1++": ")]else[])++(d.2::F0 b cs false)))++_;rw[xJ b c cs false];simp
theorem GK{b:Bool}{cs:List (Str×Th)}{f:Bool}:(F0 b cs f).isEmpty=cs.isEmpty:=by
 cases cs with
 |nil=>rfl
 |cons c r=>show((if f then[]else[Th.word ", "])++((if b then[Th.word (c.1++": ")]else[])++(c.2::F0 b r false))).isEmpty=false;simp
mutual
def Th.wt:Th->Nat
 |.num _=>1
 |.word _=>1
 |.row l=>l.wt+3
 |.dic l=>l.wt+3
def Ts.wt:Ts->Nat
 |.nil=>0
 |.cons _ t r=>t.wt+r.wt+2
end
def G6(cs:List Th):Nat:=(cs.map Th.wt).sum
theorem Z9(cs ds:List Th):G6 (cs++ds)=G6 cs+G6 ds:=by unfold G6;rw[map_append,List.sum_append]
theorem mW(c:Th)(cs:List Th):G6 (c::cs)=c.wt+G6 cs:=rfl
theorem GM(cs:List Th):G6 cs.reverse=G6 cs:=by unfold G6;rw[List.map_reverse];exact(List.reverse_perm _).sum_nat
theorem mX(b:Bool):∀(cs:List (Str×Th))(f:Bool),G6 (F0 b cs f)<=(cs.map λp=>p.2.wt+2).sum
 |[],_=>le_refl _
 |c::r,f=>by
  have:=mX b r false;show G6 ((if f then[]else[.word ", "])++((if b then[.word (c.1++": ")]else[])++(c.2::F0 b r false)))<=(c.2.wt+2)+(r.map λp=>p.2.wt+2).sum;rw[Z9,Z9,mW];have h1:G6 (if f then[]else[.word ", "])<=1:=by cases f<;>decide
  have h2:G6 (if b then[Th.word (c.1++": ")]else[])<=1:=by
   cases b with
   |true=>show 1+0<=1;decide
   |false=>show 0<=1;decide
  omega
theorem mY:∀l:Ts,(l.toL.map λp=>p.2.wt+2).sum=l.wt
 |.nil=>rfl
 |.cons k t r=>by
  show(t.wt+2)+(r.toL.map λp=>p.2.wt+2).sum=t.wt+r.wt+2;rw[mY r];omega
theorem xK:∀ps:List Str,(Str.join "" ps).cps.toList=ps.flatMap λp=>p.cps.toList
 |[]=>rfl
 |[w]=>by show w.cps.toList=_;simp
 |w::v::r=>by
  show(w++("" : Str)++Str.join "" (v::r)).cps.toList=_;rw[PyProof.Rows.cps_toList_append,PyProof.Rows.cps_toList_append,xK (v::r)];show w.cps.toList++[]++_=_;rw[append_nil];rfl
end Rg
namespace Rg
open PySem L2
def B0(t:Th):List Nat:=(B6 t).tx
def G7(cs:List Th):List Nat:=cs.flatMap B0
theorem V7(c:Th)(cs:List Th):G7 (c::cs)=B0 c++G7 cs:=by unfold G7;rw[flatMap_cons]
theorem dQ(cs ds:List Th):G7 (cs++ds)=G7 cs++G7 ds:=by unfold G7;rw[flatMap_append]
theorem xL:G7 []=[]:=rfl
theorem xM:∀(l:Ts)(f:Bool),G7 (F0 false (l.toL.map λp=>(Str.empty,p.2)) f)=(G5 l).txR f
 |.nil,_=>rfl
 |.cons k t r,f=>by
  show G7 ((if f then[]else[.word ", "])++([]++(t::F0 false (r.toL.map λp=>(Str.empty,p.2)) false)))=(if f then[]else[44,32])++((B6 t).tx++(G5 r).txR false);rw[dQ,nil_append,V7,xM r false];cases f<;>rfl
theorem xN:∀(ps:List (Str×Th))(f:Bool),G7 (F0 true ps f)=(Ts.ofL (ps.map λp=>(p.1,B6 p.2))).txD f
 |[],_=>rfl
 |(k,t)::r,f=>by
  show G7 ((if f then[]else[.word ", "])++([.word (k++": ")]++(t::F0 true r false)))=(if f then[]else[44,32])++(k.cps.toList++58::32::((B6 t).tx++(Ts.ofL (r.map λp=>(p.1,B6 p.2))).txD false));rw[dQ,List.singleton_append,V7,V7,xN r false];have e:B0 (Th.word (k++": "))=k.cps.toList++[58,32]:=by
   show(k++": ").cps.toList=_;rw[PyProof.Rows.cps_toList_append];rfl
  rw[e];show _++((k.cps.toList++[58,32])++((B6 t).tx++_))=_;cases f with
  |true=>simp[G7,B0]
  |false=>
   show([44,32]++[])++_=_;simp
theorem xO{t:Th}(h:t.Gn):G7 (S8 t)=B0 t:=by
 cases t with
 |num i=>show G7 [Th.num i]=_;rw[V7,xL,append_nil]
 |word x=>show G7 [Th.word x]=_;rw[V7,xL,append_nil]
 |row l=>
  show G7 (.word "["::(F0 false (l.toL.map λp=>(Str.empty,p.2)) true++[.word "]"]))=_;rw[V7,dQ,xM];rfl
 |dic l=>
  show G7 (.word "{"::(F0 true (E1 (.dic l)) true++[.word "}"]))=_;rw[V7,dQ,xN];have e:(E1 (.dic l)).map (λp=>(p.1,B6 p.2))=(B8 l.keys).map λk=>(k,(D9 l).fld k):=by
   show((B8 l.keys).map λk=>(k,l.fld k)).map _=_;rw[map_map];exact map_congr_left λk hk=>by
    show(k,B6 (l.fld k))=(k,(D9 l).fld k);rw[cS l ((N6 l.keys).mem_iff.mp hk)]
  rw[e];rfl
theorem GN{t:Th}(h:t.Gn)(hh:(∃l,t=.row l)∨∃l,t=.dic l):G6 (S8 t)<t.wt:=by
 rcases hh with⟨l,rfl⟩|⟨l,rfl⟩
 ·have:=mX false (E1 (.row l)) true
  rw[show(E1 (.row l)).map (λp=>p.2.wt+2)=l.toL.map λp=>p.2.wt+2 by show(l.toL.map _).map _=_;rw[map_map];rfl,mY]at this;show G6 (.word "["::(F0 false (E1 (.row l)) true++[.word "]"]))<l.wt+3;rw[mW,Z9];show 1+(_+1)<_;omega
 ·have:=mX true (E1 (.dic l)) true
  rw[((hV h.2.1).map λp=>p.2.wt+2).sum_nat,mY]at this;show G6 (.word "{"::(F0 true (E1 (.dic l)) true++[.word "}"]))<l.wt+3;rw[mW,Z9];show 1+(_+1)<_;omega
def PcG(c:Th):Prop:=c.Gn∨∃x:Str,c=.word x/\1<=x.length
theorem PcG.pos{c:Th}(h:PcG c):1<=(B0 c).length:=by
 rcases h with h|⟨x,rfl,h⟩
 ·obtain⟨a,q,e,_⟩:=dJ (bP c h)
  show 1<=((B6 c).tx).length;rw[e,length_cons];omega
 ·rw[C2]at h
  exact h
theorem iA:∀{cs:List Th},(∀c∈cs,PcG c)->cs.length<=(G7 cs).length
 |[],_=>zero_le _
 |c::cs,h=>by
  have h1:=(h c mem_cons_self).pos;have h2:=iA λd hd=>h d (mem_cons_of_mem _ hd)
  rw[V7,length_append,length_cons];omega
theorem xP{b:Bool}:∀{cs:List (Str×Th)}{f:Bool},(∀p∈cs,p.2.Gn)->∀c∈F0 b cs f,PcG c
 |[],_,_,c,hc=>by cases hc
 |p::r,f,h,c,hc=>by
  have hc:c∈(if f then[]else[.word ", "])++((if b then[.word (p.1++": ")]else[])++(p.2::F0 b r false)):=hc;rcases mem_append.mp hc with hc|hc
  ·cases f with
   |true=>cases hc
   |false=>exact .inr ⟨_,mem_singleton.mp hc,!0⟩
  ·rcases mem_append.mp hc with hc|hc
   ·cases b with
    |false=>cases hc
    |true=>
     refine .inr ⟨_,mem_singleton.mp hc,?_⟩;rw[C2,PyProof.Rows.cps_toList_append,length_append];show 1<=_+2;omega
   ·rcases mem_cons.mp hc with rfl|hc
    ·exact .inl (h p mem_cons_self)
    ·exact xP (λq hq=>h q (mem_cons_of_mem _ hq)) c hc
theorem xQ{t:Th}(h:t.Gn):∀c∈S8 t,PcG c:=by
 have key:∀{b:Bool}{x y:Str}{cs:List (Str×Th)},1<=x.length->1<=y.length->(∀p∈cs,p.2.Gn)->∀c∈Th.word x::(F0 b cs true++[.word y]),PcG c:=λhx hy hp c hc=>by
  rcases mem_cons.mp hc with rfl|hc
  ·exact .inr ⟨_,rfl,hx⟩
  ·rcases mem_append.mp hc with hc|hc
   ·exact xP hp c hc
   ·rw[mem_singleton.mp hc]
    exact .inr ⟨_,rfl,hy⟩
 cases t with
 |num i=>intro c hc;rw[mem_singleton.mp hc];exact .inl h
 |word x=>intro c hc;rw[mem_singleton.mp hc];exact .inl h
 |row l=>exact key (!0) (!0) (mS h)
 |dic l=>exact key (!0) (!0) (mS h)
end Rg
namespace Rg
open PySem L2
theorem xR(k:Str)(t:Th)(j:Str)(u:Th)(r:Ts):Ts.put k t (.cons j u r)=if j=k then .cons j t r else .cons j u (r.put k t):=rfl
theorem mZ(k:Str)(t:Th):∀l:Ts,(l.put k t).keys=if k∈l.keys then l.keys else l.keys++[k]
 |.nil=>rfl
 |.cons j u r=>by
  rw[xR];by_cases e:j=k
  ·rw[if_pos e,if_pos (by rw[←e];exact mem_cons_self)]
   rfl
  ·rw[if_neg e]
   show j::(r.put k t).keys=if k∈j::r.keys then j::r.keys else(j::r.keys)++[k]
   rw[mZ k t r];by_cases m:k∈r.keys
   ·rw[if_pos m,if_pos (mem_cons_of_mem _ m)]
   ·rw[if_neg m,if_neg (λz=>by
     rcases mem_cons.mp z with z|z
     ·exact e z.symm
     ·exact m z)]
    rfl
theorem GO{k:Str}{t:Th}{l:Ts}(h:l.keys.Nodup):(l.put k t).keys.Nodup:=by
 rw[mZ];by_cases m:k∈l.keys
 ·rw[if_pos m];exact h
 ·rw[if_neg m]
  exact nodup_append.mpr ⟨h,!2,λa ha b hb e=>m (by rw[mem_singleton.mp hb]at e;rw[←e];exact ha)⟩
theorem GP(k:Str)(t:Th)(l:Ts):(l.put k t).len<=l.len+1:=by
 rw[←Ts.keys_len,←Ts.keys_len,mZ];by_cases m:k∈l.keys
 ·rw[if_pos m];exact le_succ _
 ·rw[if_neg m,length_append];exact le_refl _
def Ts.del(k:Str):Ts->Ts
 |.nil=>.nil
 |.cons j u r=>if j=k then r.del k else .cons j u (r.del k)
theorem RepD.noKey{H:Hp}{l:Ts}{kvs:List (A4×V)}{k:Str}(h:RepD H l kvs)(hk:¬k∈l.keys):¬(Sum.inr k:A4)∈kvs.map (·.1):=λz=>by
 rw[h.keys]at z;obtain⟨j,z1,z2⟩:=mem_map.mp z;cases z2;exact hk z1
theorem RepD.put{H:Hp}{k:Str}{t:Th}{y:V}(ht:Rep H t y):∀{l:Ts}{kvs:List (A4×V)},l.keys.Nodup->RepD H l kvs->RepD H (l.put k t) (G8 kvs (Sum.inr k) y)
 |.nil,kvs,_,h=>by rw[(h:kvs=[])];exact⟨y,[],rfl,ht,rfl⟩
 |.cons j u r,kvs,nd,h=>by
  obtain⟨n1,n2⟩:=nodup_cons.mp (show(j::r.keys).Nodup from nd);obtain⟨z,zs,rfl,h2,h3⟩:=(h:∃y ys,kvs=(Sum.inr j,y)::ys/\Rep H u y/\RepD H r ys);rw[xR];by_cases e:j=k
  ·subst e
   rw[if_pos rfl];have nk:=RepD.noKey h3 n1;have e2:G8 ((Sum.inr j,z)::zs) (Sum.inr j) y=(Sum.inr j,y)::zs:=by
    unfold G8;rw[if_pos (!2),map_cons,if_pos rfl]
    congr 1
    have:∀p∈zs,(if p.1=(Sum.inr j:A4)then(p.1,y)else p)=p:=λp hp=>if_neg λq=>nk (mem_map.mpr ⟨p,hp,q⟩)
    rw[map_congr_left this,List.map_id']
   rw[e2];exact⟨y,zs,rfl,ht,h3⟩
  ·rw[if_neg e]
   have ne:¬(Sum.inr j:A4)=Sum.inr k:=λq=>e (by injection q)
   have e2:G8 ((Sum.inr j,z)::zs) (Sum.inr k) y=(Sum.inr j,z)::G8 zs (Sum.inr k) y:=by
    unfold G8;rw[any_cons,map_cons,if_neg ne];have z0:decide ((Sum.inr j:A4)=Sum.inr k)=false:=decide_eq_false ne;show(if(decide ((Sum.inr j:A4)=Sum.inr k)||zs.any _)=true then _ else _)=_;rw[z0,Bool.false_or];by_cases a:(zs.any λkv=>decide (kv.1=(Sum.inr k:A4)))=true
    ·rw[if_pos a,if_pos a]
    ·rw[if_neg a,if_neg a];rfl
   rw[e2];exact⟨z,_,rfl,h2,RepD.put ht n2 h3⟩
end Rg
namespace Rg
open PySem PySem.W PySem.Spec PyProof.Rows L2
def aA(c':Addr)(q:Str):HO:=.ext λh=>h.CodeRec (.ref c') q
def bQ(f c':Addr)(q:Str)(params:Arguments)(body:PySem.Expr)(scope:Scope):HO:=.ext λh=>∃pm ctv,h.get? f=some (kla_obj "<lambda>" q params body scope [] pm c' ctv)
def BM(mg:Str->Option Value)(h:Heap):Prop:=∃bm ob,mg "__builtins__"=some (.ref bm)/\bm≠builtinsNs/\h.get? bm=some ob/\ob.cls=.type "module"/\ob.dict=some builtinsNs/\ob.data=.plain
def SameX(H H':Hp):Prop:=∀b o,H b=some o->(∀ps,o≠.tbl ps)->H' b=some o
theorem Same.x{H H':Hp}(h:Same H H'):SameX H H':=λb o e _=>h b o e
theorem SameX.refl(H:Hp):SameX H H:=λ_ _ e _=>e
theorem SameX.trans{H H1 H2:Hp}(a:SameX H H1)(b:SameX H1 H2):SameX H H2:=λc o e n=>b c o (a c o e n) n
def TabOk(P:Addr)(pos:Pos)(q:Str)(H:Hp):Prop:=H P=some (.tbl #[])∨∃c',H P=some (.tbl #[rawInt pos.line,rawInt pos.col,.ref c'])/\H c'=some (aA c' q)
theorem TabOk.mono{P:Addr}{pos:Pos}{q:Str}{H H':Hp}(h:TabOk P pos q H)(e:Same H H'):TabOk P pos q H':=by
 rcases h with h|⟨c',h1,h2⟩
 ·exact .inl (e _ _ h)
 ·exact .inr ⟨c',e _ _ h1,e _ _ h2⟩
theorem GQ{P:Program}{w:World}{H:Hp}{h:Heap}{c':Addr}{q:Str}(hr:h.CodeRec (.ref c') q):ObjOk P w H h c' (aA c' q):=by
 obtain⟨c₂,oc,vs,t,e2,hoc,hd,hv⟩:=hr;cases e2;refine⟨⟨_,oc,vs,t,rfl,hoc,hd,hv⟩,⟨oc,hoc⟩,λh1 h2 ⟨c₂,oc,vs,t,e2,hoc,hd,hv⟩ k=>?_⟩;cases e2;exact⟨_,oc,vs,t,rfl,k _ hoc,hd,hv⟩
theorem xS{P:Program}{w:World}{H:Hp}{h:Heap}{f c':Addr}{q:Str}{params:Arguments}{body:PySem.Expr}{scope:Scope}{pm ctv:Value}(e:h.get? f=some (kla_obj "<lambda>" q params body scope [] pm c' ctv)):
  ObjOk P w H h f (bQ f c' q params body scope):=
 ⟨⟨pm,ctv,e⟩,⟨_,e⟩,λh1 h2 ⟨pm,ctv,e⟩ k=>⟨pm,ctv,k _ e⟩⟩
section
variable{X:Cx}{params:Arguments}{body:PySem.Expr}{scope:Scope}{pos:Pos}{c P:Addr}{q:Str}
def GR(P:Addr)(pos:Pos)(q:Str)(params:Arguments)(body:PySem.Expr)(scope:Scope):TE:=fun σ H Q=>TabOk P pos q H/\∀(f c':Addr)(H':Hp),SameX H H'->H' f=some (bQ f c' q params body scope)->H' c'=some (aA c' q)->TabOk P pos q H'->Q (.ref f) H'
theorem GS(hcode:X.env.code=.ref c)(hglob:X.env.globals=mainGlobals)(hC:CodeHd X.base c P)(hB:BM X.mg X.base)(hq:X.env.qual++"<lambda>"=q)
  (hcl:closureFor scope X.env=pure []:=by rfl) (hdef:defaultsOf params X.env=([],[]):=by rfl):
  PE X (.Lambda params body scope pos) (GR P pos q params body scope):=by
 intro ζ s σ H Q I h;obtain⟨tab,q1⟩:=h;have old:∀b o,X.base.get? b=some o->s.heap.get? b=some o/\H b=none:=λb o e=>I.bs b o e
 have hP0:∃ps,H P=some (.tbl ps):=by
  rcases tab with h|⟨c',h,_⟩
  ·exact⟨_,h⟩
  ·exact⟨_,h⟩
 obtain⟨ps,hP⟩:=hP0;have hPh:s.heap.get? P=some (tabObj ps):=I.hok P _ hP;have hgs:s.heap.Ns mainGlobals X.mg:=I.ok.mod.glob.keeps λb o e=>(old b o e).1
 obtain⟨bm,ob,b1,b2,b3,b4,b5,b6⟩:=hB;have hgP:mainGlobals≠P:=λz=>by
  obtain⟨o,es,ep,e,hd,_⟩:=I.ok.mod.glob;have:=(old _ _ e).2;rw[z,hP]at this;cases this
 have hbP:bm≠P:=λz=>by
  have:=(old _ _ b3).2;rw[z,hP]at this;cases this
 have hbG:bm≠mainGlobals:=λz=>by
  obtain⟨o,es,ep,e,hd,_⟩:=I.ok.mod.glob;rw[z,e]at b3;cases b3;rw[hd]at b6;cases b6
 have hBA:s.heap.BuiltinsAt X.mg P:=⟨bm,ob,b1,b2,hbG,hbP,(old _ _ b3).1,b4,b5,b6⟩;have hCs:CodeHd s.heap c P:=hC.keeps λb o e=>(old b o e).1
 refine kla_eval hdef ?_;rw[hq];rcases tab with h0|⟨c',h0,hc'⟩
 ·rw[hP]at h0
  cases h0;refine kla_makeFunction (mg:=X.mg) hcl hglob hgs hcode hCs hPh trivial rfl hgP hBA λc' ctv h' tk hx hge hlt hrec htb=>?_
  have hf:h'.objs.size≠c':=ne_of_gt hlt;have hPs:P<s.heap.objs.size:=Heap.lt_size hPh;have hPc:P≠c':=ne_of_lt (lt_of_lt_of_le hPs hge);have hle:s.heap.objs.size<=h'.objs.size:=le_trans hge (le_of_lt hlt);have hPf:P≠h'.objs.size:=ne_of_lt (lt_of_lt_of_le hPs hle);have nf:H h'.objs.size=none:=I.hok.fresh hle;have nc:H c'=none:=I.hok.fresh hge;have htb':h'.get? P=some (tabObj #[rawInt pos.line,rawInt pos.col,.ref c']):=by simpa using htb
  let H':Hp:=upd (upd (upd H P (.tbl #[rawInt pos.line,rawInt pos.col,.ref c'])) c' (aA c' q)) h'.objs.size (bQ h'.objs.size c' q params body scope)
  have eP:H' P=some (.tbl #[rawInt pos.line,rawInt pos.col,.ref c']):=by show upd _ _ _ P=_;rw[A9 hPf,A9 hPc,A6]
  have ec:H' c'=some (aA c' q):=by show upd _ _ _ c'=_;rw[A9 (Ne.symm hf),A6]
  have ef:H' h'.objs.size=some (bQ h'.objs.size c' q params body scope):=A6;have eo:∀b,b≠P->b≠c'->b≠h'.objs.size->H' b=H b:=λb n1 n2 n3=>by show upd _ _ _ b=_;rw[A9 n3,A9 n2,A9 n1]
  have tr:∀b u,H b=some u->b≠c'/\b≠h'.objs.size:=λb u e=>⟨E6 e nc,E6 e nf⟩
  have push:∀b o,b≠P->s.heap.get? b=some o->(h'.push (kla_obj "<lambda>" q params body scope [] ((X.mg "__name__").getD .none) c' ctv)).get? b=some o:=λb o n e=>Heap.get?_push_of_some _ (hx b o n e)
  have I2:Inv X ζ σ H' {s with heap:=h'.push (kla_obj "<lambda>" q params body scope [] ((X.mg "__name__").getD .none) c' ctv),gens:=s.gens,drawn:=s.drawn,toks:=tk}:=by
   refine I.step (ch:=[]) (λ_ z=>nomatch z) (λb o _ _ _ e n=>push b o (λz=>by rw[z,hP]at n;cases n) e) (λb o _ _ _ e n=>⟨o.slots,push b o (λz=>by rw[z,hP]at n;cases n) e⟩) (λb o _ e n=>?_) (λb o _ e=>?_)
    (λb xs e=>?_) (λb o u e=>?_) (λb qs e=>?_) (λm hm=>?_) (λb u e=>?_) I.bare
   ·have lb:=Heap.lt_size e
    rw[eo b (λz=>by rw[z,hP]at n;cases n) (ne_of_lt (lt_of_lt_of_le lb hge)) (ne_of_lt (lt_of_lt_of_le lb hle))];exact n
   ·by_cases z:b=P
    ·rw[z];exact⟨_,Heap.get?_push_of_some _ htb'⟩
    ·exact⟨o,push b o z e⟩
   ·rw[eo b (λz=>by rw[z,hP]at e;cases e) (tr b _ e).1 (tr b _ e).2];exact e
   ·rw[eo b (λz=>by rw[z,hP]at e;cases e) (tr b _ e).1 (tr b _ e).2];exact e
   ·by_cases z:b=P
    ·rw[z,hP]at e
     cases e;exact⟨#[rawInt pos.line,rawInt pos.col,.ref c'],by rw[z,eP];simp⟩
    ·exact⟨#[],by rw[eo b z (tr b _ e).1 (tr b _ e).2,e];simp⟩
   ·obtain⟨o,es,ep,ho,r⟩:=hm
    have hL:X.env.locals≠P:=λz=>by have:=I.free;rw[z,hP]at this;cases this
    exact⟨o,es,ep,push _ o hL ho,r⟩
   ·by_cases z1:b=h'.objs.size
    ·rw[z1,ef]at e
     cases e;rw[z1];exact xS (Heap.get?_push_size _ rfl)
    ·by_cases z2:b=c'
     ·rw[z2,ec]at e
      cases e;rw[z2];obtain⟨c₂,oc,vs,t,e2,hoc,hd,hv⟩:=hrec;cases e2;exact GQ ⟨_,oc,vs,t,rfl,Heap.get?_push_of_some _ hoc,hd,hv⟩
     ·by_cases z3:b=P
      ·rw[z3,eP]at e
       cases e;rw[z3];exact Heap.get?_push_of_some _ htb'
      ·rw[eo b z3 z2 z1]at e
       refine(I.hok b u e).stay (λd v hd' g=>?_) (λd g=>?_) λd xs g=>?_
       ·refine push d v (λz=>?_) g
        rcases hd' with k|k
        ·exact z3 (by rw[←k,z])
        ·rw[z,hP]at k;cases k
       ·rw[eo d (λz=>by rw[z,hP]at g;cases g) (tr d _ g).1 (tr d _ g).2];exact g
       ·rw[eo d (λz=>by rw[z,hP]at g;cases g) (tr d _ g).1 (tr d _ g).2];exact g
  exact⟨.ref h'.objs.size,H',I2,rfl,q1 _ c' H' (λb o e n=>by rw[eo b (λz=>by rw[z,hP]at e;cases e;exact n _ rfl) (tr b _ e).1 (tr b _ e).2];exact e) ef ec (.inr ⟨c',eP,ec⟩)⟩
 ·rw[hP]at h0
  cases h0;have hrec:s.heap.CodeRec (.ref c') q:=(I.hok c' _ hc').1;refine kla_makeFunctionHit (mg:=X.mg) hcl hglob hgs hcode hCs hPh ?_ (cv:=.ref c') ?_ hBA λctv h' tk hk hsz=>?_
  ·exact trivial
  ·simp[codeAmong,rawInt]
  have nf:H h'.objs.size=none:=I.hok.fresh hsz;refine⟨.ref h'.objs.size,_,I.laid (t':=tk) (λb o e=>Heap.get?_push_of_some _ (hk b o e)) hsz (xS (Heap.get?_push_size _ rfl)),rfl,q1 _ c' _ (Same.x (C3 nf _)) A6 ?_ ?_⟩
  ·rw[A9 (E6 hc' nf)];exact hc'
  ·exact TabOk.mono (.inr ⟨c',hP,hc'⟩) (C3 nf _)
end
abbrev xT(c':Addr)(q:Str)(params:Arguments)(body:PySem.Expr)(scope:Scope):FuncData:=kla_fn "<lambda>" q params body scope [] .none (.ref c') .none
theorem GT{CX:O9}{P:Program}{w:World}{K:Frag}{mg:Str->Option Value}{base:Heap}{k:Nat}{f c':Addr}{q:Str}{params:Arguments}{body:PySem.Expr}{scope:Scope}{N ps:List Str}{sp:Sp}
  (S:FnScope N ps scope) (len:∀vs H Q E,sp vs H Q E->vs.length=ps.length)
  (hbody:∀(A:Around)(outer:List Env)(s:Shared)(H:Hp)(vs:List V)(Q:VK)(E:XK),Room k (A.deeper (envOfC q scope s.heap.objs.size f (.ref c')))->sp vs H Q E->
   ∃t,PE (J3 CX P w K mg base N q scope f (.ref c') A outer s H E) body t/\t (start N vs) H Q):
  FnOk P w K mg base CX (k+1) f (xT c' q params body scope) ps (λvs H Q E=>H f=some (bQ f c' q params body scope)/\H c'=some (aA c' q)/\sp vs H Q E):=by
 refine⟨λvs H Q E h=>len vs H Q E h.2.2,λA outer s H args us vs Q E hr e0 hb r hsp=>?_⟩;obtain⟨hf,hc,hsp⟩:=hsp;have hl:=len _ _ _ _ hsp;have lim:s.heap.NoLimit:=e0.mod.nolimit.keeps λb o e=>(e0.bs b o e).1
 have hkind:∀y∈ps.zip us,scope.names.lookup y.1=some .local∨(scope.names.lookup y.1=some .cell/\((cellsFrom (s.heap.objs.size+1) scope.names []).lookup y.1).isSome=true):=λ⟨n,v⟩ hy=>by
  rcases S.par n (of_mem_zip hy).1 with q|q
  ·exact .inl q
  ·exact .inr ⟨q,cellsFrom_some _ _ _ (.inl q)⟩
 obtain⟨pm,ctv,ho⟩:=(e0.hok f _ hf).1;have hrec:s.heap.CodeRec (.ref c') q:=(e0.hok c' _ hc).1;have hb':BindsTo s (kla_fn "<lambda>" q params body scope [] pm (.ref c') ctv) args (ps.zip us):=λM A E Q hq=>hb M A E Q hq
 refine kla_callFunE hr.depth ho rfl S.co S.gen rfl hrec (hb' _ _ _ _ ?_);refine wpAny_newFunctionEnv_cells S.kind hkind λenv he s1 x=>?_
 subst he;refine⟨lim.keeps x.toInCall.keep,kla_codeExpr ?_⟩;obtain⟨t,ht,hq⟩:=hbody A outer s H vs Q E (hr.deeper _) hsp;have I:Inv (J3 CX P w K mg base N q scope f (.ref c') A outer s H E) [] (start N vs) H s1:=rL S hr.hd e0 hl r x;refine wpAny_mono (ht [] s1 (start N vs) H _ I hq) (λu s' hs=>?_) λe s' hs=>hs
 obtain⟨v,H',J,rv,q⟩:=hs;exact⟨v,H',J.os,J.bare,J.base,J.hok,rv,q⟩
end Rg
namespace Rg
open PySem L2
mutual
theorem nA:∀t:Th,t.Wf->t.tx.length+12<=73*t.size
 |.num i,h=>by
  have:=(gP (show i.natAbs<10^60 from h)).2.1;rw[C2]at this;show(nT i).cps.toList.length+12<=73*1;omega
 |.word x,h=>by
  have h':D7 x=true:=h;unfold D7 at h';simp only[Bool.and_eq_true,decide_eq_true_eq]at h';have:=h'.1.2;rw[C2]at this;show x.cps.toList.length+12<=73*1;omega
 |.row l,h=>by
  have:=xU l true h;show(91::(l.txR true++[93])).length+12<=73*(l.size+1);rw[length_cons,length_append];show _+1+1+12<=_;omega
 |.dic l,h=>by
  have:=xV l Str.empty true h;show(123::(l.txD true++[125])).length+12<=73*(l.size+1);rw[length_cons,length_append];show _+1+1+12<=_;omega
theorem xU:∀(l:Ts)(f:Bool),l.WfR->(l.txR f).length<=73*l.size
 |.nil,_,_=>le_refl _
 |.cons k t r,f,h=>by
  have h1:=nA t h.2.1;have h2:=xU r false h.2.2;show((if f then[]else[44,32])++(t.tx++r.txR false)).length<=73*(t.size+r.size);rw[length_append,length_append];have h3:(if f=true then([]:List Nat)else[44,32]).length<=2:=by cases f<;>decide
  omega
theorem xV:∀(l:Ts)(last:Str)(f:Bool),l.WfD last->(l.txD f).length<=73*l.size
 |.nil,_,_,_=>le_refl _
 |.cons k t r,last,f,h=>by
  have h1:=nA t h.2.2.1;have h2:=xV r k false h.2.2.2;have h':D7 k=true:=h.1;unfold D7 at h';simp only[Bool.and_eq_true,decide_eq_true_eq]at h';have h8:=h'.1.2;rw[C2]at h8;show((if f then[]else[44,32])++(k.cps.toList++58::32::(t.tx++r.txD false))).length<=73*(t.size+r.size);rw[length_append,length_append,length_cons,length_cons,length_append];have h3:(if f=true then([]:List Nat)else[44,32]).length<=2:=by cases f<;>decide
  omega
end
theorem iB{t:Th}(h:t.Gn):(B0 t).length+12<=73*t.size:=by
 have:=nA (B6 t) (bP t h);rw[Z8 t h]at this;exact this
theorem xW:∀ts:List Th,Q6 44 32 (ts.map λt=>sL (B0 t))=(Ts.ofL (ts.map λt=>(Str.empty,B6 t))).txR true
 |[]=>rfl
 |[t]=>by
  show B0 t=[]++((B6 t).tx++[]);rw[append_nil,nil_append];rfl
 |t::u::r=>by
  have ih:=xW (u::r);show B0 t++44::32::Q6 44 32 ((u::r).map λt=>sL (B0 t))=[]++((B6 t).tx++(Ts.ofL ((u::r).map λt=>(Str.empty,B6 t))).txR false);rw[ih];rfl
theorem xX:∀ps:List (Str×Th),Q6 44 32 (ps.map λp=>p.1++": "++sL (B0 p.2))=(Ts.ofL (ps.map λp=>(p.1,B6 p.2))).txD true
 |[]=>rfl
 |[(k,t)]=>by
  show(k++": "++sL (B0 t)).cps.toList=[]++(k.cps.toList++58::32::((B6 t).tx++[]));rw[PyProof.Rows.cps_toList_append,PyProof.Rows.cps_toList_append,append_nil,nil_append,append_assoc];rfl
 |(k,t)::u::r=>by
  have ih:=xX (u::r);show(k++": "++sL (B0 t)).cps.toList++44::32::Q6 44 32 ((u::r).map λp=>p.1++": "++sL (B0 p.2))=[]++(k.cps.toList++58::32::((B6 t).tx++(Ts.ofL ((u::r).map λp=>(p.1,B6 p.2))).txD false));rw[ih,PyProof.Rows.cps_toList_append,PyProof.Rows.cps_toList_append,nil_append,append_assoc,append_assoc];rfl
theorem GU(l:Ts):B0 (.row l)=91::(Q6 44 32 (l.toL.map λp=>sL (B0 p.2))++[93]):=by
 have e:G5 l=Ts.ofL ((l.toL.map (·.2)).map λt=>(Str.empty,B6 t)):=by
  rw[←kJ (G5 l),fY,map_map];rfl
 have:=xW (l.toL.map (·.2));rw[map_map]at this;show 91::((G5 l).txR true++[93])=_;rw[e,←this];rfl
theorem GV(l:Ts):B0 (.dic l)=123::(Q6 44 32 ((B8 l.keys).map λk=>k++": "++sL (B0 (l.fld k)))++[125]):=by
 have:=xX ((B8 l.keys).map λk=>(k,l.fld k));rw[map_map,map_map]at this;have e:((B8 l.keys).map λk=>(k,(D9 l).fld k))=(B8 l.keys).map ((λp:Str×Th=>(p.1,B6 p.2)) ∘ λk=>(k,l.fld k)):=map_congr_left λk hk=>by
  show(k,(D9 l).fld k)=(k,B6 (l.fld k));rw[cS l ((N6 l.keys).mem_iff.mp hk)]
 show 123::((Ts.ofL ((B8 l.keys).map λk=>(k,(D9 l).fld k))).txD true++[125])=_;rw[e,←this];rfl
end Rg
namespace Rg
open PySem PySem.W PySem.Spec PyProof.Rows L2
section
variable{X:Cx}
structure QP(X:Cx)(pos:Pos)(ks:List (Option Expr))(vs:List Expr)(trs:List (TE×TE)):Prop where h:cM X pos ks vs trs
theorem GW{pos:Pos}:QP X pos [] [] []:=⟨Da⟩
theorem GX{pos:Pos}{k v:Expr}{ks:List (Option Expr)}{vs:List Expr}{tk tv:TE}{trs:List (TE×TE)}(hk:QE X k tk)(hv:QE X v tv)(hr:QP X pos ks vs trs):QP X pos (some k::ks) (v::vs) ((tk,tv)::trs):=⟨Db hk.h hv.h hr.h⟩
theorem GY{pos:Pos}{k:Option Expr}{keys:List (Option Expr)}{values:List Expr}{trs:List (TE×TE)}(h:QP X pos (k::keys) values trs)(hall:(k::keys).all (·.isSome)=true:=by rfl)(hl:(k::keys).length=values.length:=by rfl)
  (h15:keys.length<15:=by decide):QE X (.Dict (k::keys) values pos) (sS trs):=⟨Dc h.h hall hl (λe=>by cases e) h15⟩
end
end Rg
namespace Rg
open PySem PySem.Spec PyProof.Rows L2
def Dt.ty:Dt->String
 |.int _=>"int"
 |.str _=>"str"
 |.bl _=>"bool"
 |.non=>"NoneType"
 |.lst _=>"list"
 |.tup _=>"tuple"
 |.dic _ _=>"dict"
section
variable(K:Frag)
theorem GZ:kitOne K (.type "int") (.type "int")=some true:=by kernel_rfl
theorem Ha:kitOne K (.type "int") (.type "bool")=some false:=by kernel_rfl
end
end Rg
namespace Rg
open PySem PySem.W PySem.Spec PyProof.Rows L2
def F5(x y:Str):Bool:=decide (x.cps.toList<y.cps.toList)
theorem Hb{x y:Str}:F5 x y=(K1 x y==.lt):=by
 unfold F5 K1;by_cases e:x=y
 ·subst e
  rw[if_pos rfl,decide_eq_false (List.lt_irrefl _)];rfl
 ·rw[if_neg e]
  by_cases l:x.cps.toList<y.cps.toList
  ·rw[if_pos l,decide_eq_true l];rfl
  ·rw[if_neg l,decide_eq_false l];rfl
theorem nB:OrdS F5:=by
 have tot:∀{x y:Str},F5 x y=false->F5 y x=false->x=y:=λ{x y} h1 h2=>by
  rw[Hb]at h1 h2;rw[fX x y]at h2;cases h:K1 x y with
  |eq=>exact tS h
  |lt=>rw[h]at h1;cases h1
  |gt=>rw[h]at h2;cases h2
 have tr:∀{x y z:Str},F5 x y=true->F5 y z=true->F5 x z=true:=λ{x y z} h1 h2=>decide_eq_true (List.lt_trans (of_decide_eq_true h1) (of_decide_eq_true h2))
 have asy:∀{x y:Str},F5 x y=true->F5 y x=false:=λ{x y} h=>by
  cases z:F5 y x with
  |false=>rfl
  |true=>exact absurd (of_decide_eq_true (tr h z)) (List.lt_irrefl _)
 refine⟨asy,λ{x y z} h1 h2=>?_,tot⟩;cases h:F5 z x with
 |false=>rfl
 |true=>
  cases h3:F5 x y with
  |true=>rw[tr h h3]at h2;cases h2
  |false=>
   have:=tot h1 h3;subst this;rw[h]at h2;cases h2
def nC(v:Value):Str:=match v with
 |.str x _=>x
 |_=>Str.empty
section
variable{X:Cx}{ζ:List (Addr×Obj)}{σ:L2.St}{H:Hp}{s:Shared}{D:Addr}{n:Nat}{vs:List Value}{xs:List Str}{P:PySem.Fin->Shared->Prop}{E:Value->Shared->Prop}
theorem Hc(I:Inv X ζ σ H s)(hD:s.heap.get? D=some (seqObj "list" vs.toArray n))(fD:E7 X ζ H D)(rv:Vals (xs.map V.str) vs)(h64:xs.length<128)(nd:xs.Nodup)
  (h:∀(s':Shared)(us':List Value)(n':Nat),Inv X ζ σ H s'->H D=none->s'.heap.get? D=some (seqObj "list" (toArray us') n')->Vals ((G4 F5 xs).map V.str) us'->P (.done (.ret .none)) s'):
  wpAny (model X.prog X.w) X.A (Builtin.«list.sort» ⟨[.ref D],[]⟩) P E s:=by
 have hlen:xs.length=vs.length:=by rw[←rv.length,length_map]
 have hz:vs.length<=sizeLine:=by rw[←hlen,sizeLine_eq];omega
 rw[list_sort_plain];refine wpAny_bind (listItems_at hD rfl ?_);refine wpAny_bind (listUpdate_at hD rfl ?_ (by rw[size_toArray];exact hz) (zero_le _));obtain⟨e1,ho1⟩:∃e1,(s.heap.update D (Obj.mapSeq λ_=>(#[]:Array Value))).get? D=some (seqObj "list" #[] e1):=⟨_,get?_update_seq hD λ_=>#[]⟩
 have I1:Inv X ζ σ H {s with heap:=s.heap.update D (Obj.mapSeq λ_=>(#[]:Array Value)),toks:=s.toks}:=
  W4 I fD λc o hc q=>(Heap.get?_update_other _ _ (Ne.symm hc)).trans q
 refine wpAny_bind (seqEpoch_at ho1 rfl ?_);refine wpAny_bind (wpAny_newTuple ?_ (by show vs.length<=_;exact hz));refine wpAny_bind (wpAny_newList ?_ (zero_le _));refine wpAny_holding ?_;generalize hg:s.heap.update D (Obj.mapSeq λ_=>(#[]:Array Value))=g1 at I1 ho1 ⊢;have I2:Inv X ζ σ H {s with heap:=g1.push {cls:=.type "tuple",data:=.seq vs.toArray},toks:=s.toks}:=I1.kept (λb o q=>Heap.get?_push_of_some _ q);generalize hg2:g1.push {cls:=.type "tuple",data:=.seq vs.toArray}=g2 at I2 ⊢;have ho2:g2.get? D=some (seqObj "list" #[] e1):=by rw[←hg2];exact Heap.get?_push_of_some _ ho1
 have I3:Inv X ζ σ H {s with heap:=g2.push {cls:=.type "list",data:=.seq ([]:List Value).toArray},toks:=s.toks}:=I2.kept (λb o q=>Heap.get?_push_of_some _ q);have ho3:(g2.push {cls:=.type "list",data:=.seq ([]:List Value).toArray}).get? D=some (seqObj "list" #[] e1):=Heap.get?_push_of_some _ ho2;generalize g2.push {cls:=.type "list",data:=.seq ([]:List Value).toArray}=g3 at I3 ho3 ⊢;dsimp only;have done:∀(us:List Value),Vals ((G4 F5 xs).map V.str) us->us.length=vs.length/\P (.done (.ret .none)) {s with heap:=g3.update D (Obj.mapSeq λ_=>toArray us),toks:=s.toks}:=λus hus=>by
  have I8:=W4 (h':=g3.update D (Obj.mapSeq λ_=>toArray us)) (t':=s.toks) I3 fD λc' o hc q=>(Heap.get?_update_other _ _ (Ne.symm hc)).trans q
  have hup:=get?_update_seq ho3 (λ_=>toArray us);exact⟨by rw[←hus.length,length_map,(dN xs).length_eq,hlen],h _ us _ I8 fD.1 hup hus⟩
 by_cases h2:vs.length<2
 ·have hs2:vs.toArray.size<2:=by rw[size_toArray];exact h2
  rw[if_pos hs2,if_pos hs2];refine wpAny_bind (wpAny_pure ?_);refine wpAny_bind (wpAny_pure ?_);dsimp only;have e0:xs=G4 F5 xs:=bN nB (List.Perm.refl xs) (pairwise_iff_getElem.mpr λi j hi hj hij=>by omega);obtain⟨hul,hP⟩:=done vs (by rw[←e0];exact rv);have hst:(arrOf (SortSt.mk' general' (vs.toArray.zip vs.toArray) #[] 7 none)).map (·.2)=toArray vs:=by
   show(vs.toArray.zip vs.toArray).map (·.2)=_;apply Array.toList_inj.mp;rw[Array.toList_map,ksk_zip,map_snd_zip (le_refl _)]
  refine wpAny_bind (seqEpoch_at ho3 rfl ?_);refine wpAny_bind (listUpdate_at ho3 rfl ?_ (zero_le _) (by
   show((vs.toArray.zip vs.toArray).map (·.2)).size<=_;simp;omega))
  simp only[bne_self_eq_false,Bool.false_eq_true,if_false];refine wpAny_pure ?_;have hz2:(vs.toArray.zip vs.toArray).map (·.2)=toArray vs:=hst;rw[←hz2]at hP;exact hP
 ·have hs2:¬vs.toArray.size<2:=by rw[size_toArray];exact h2
  rw[if_neg hs2,if_neg hs2];have wds:∀v∈vs,∃x t,v=Value.str x t:=λv hv=>by
   obtain⟨i,hi,rfl⟩:=getElem_of_mem hv;have hi':i<xs.length:=by omega
   obtain⟨u,hu,ru⟩:=rv.get (x:=.str xs[i]) (i:=i) (by rw[getElem?_map,getElem?_eq_getElem hi'];rfl);rw[getElem?_eq_getElem hi]at hu;cases hu;obtain⟨t,e⟩:=ru;exact⟨_,t,e⟩
  refine wpAny_bind (kas_kind (T:=.type "str") (!1) (λv hv=>?_) (!3) (!3) ?_)
  ·obtain⟨x,t,rfl⟩:=wds v hv
   exact λA Q E s' _ q=>wpAny_typeOf (typeIs_str s' x t) q
  have hdec:vs.map nC=xs:=by
   apply List.ext_getElem?;intro i;rcases lt_or_ge i vs.length with z|z
   ·have hi':i<xs.length:=by omega
    obtain⟨u,hu,ru⟩:=rv.get (x:=.str xs[i]) (i:=i) (by rw[getElem?_map,getElem?_eq_getElem hi'];rfl);obtain⟨t,e⟩:=ru;rw[getElem?_map,hu,e,getElem?_eq_getElem hi'];rfl
   ·rw[getElem?_eq_none (by rw[length_map];exact z),getElem?_eq_none (!1)]
  refine wpAny_bind (wpAny_mono (wS (ks:=vs) (vs:=vs) (κ:=oneType') (lt:=F5) (Q:=λst' s'=>s'={s with heap:=g3,toks:=s.toks}/\(arrOf st').toList.Perm (vs.zip vs)/\(arrOf st').toList.map (λz=>nC z.1)=G4 F5 xs/\failedOf st'=none) nC nB rfl hdec nd (!1) (!1) (λk hk k' hk' C hC=>?_) λst' p1 p2 p3=>⟨rfl,p1,p2,p3⟩) ?_ λ_ _ x=>x)
  ·obtain⟨x,t,rfl⟩:=wds _ hk
   obtain⟨y,t',rfl⟩:=wds _ hk';exact kas_lt_str hC
  ·rintro ⟨⟨⟩,st'⟩ s' ⟨rfl,p1,p2,p3⟩
   obtain⟨hul,hP⟩:=done ((arrOf st').toList.map (·.2)) (by
    rw[←p2];refine mL λz hz=>?_
    have hz':=p1.mem_iff.mp hz;obtain⟨e1,e2⟩:=mem_zip_self hz';obtain⟨x,t,e⟩:=wds _ e2;rw[←e1,e];exact⟨t,rfl⟩)
   have hst:(arrOf st').map (·.2)=toArray ((arrOf st').toList.map (·.2)):=Array.toList_inj.mp (by rw[Array.toList_map]);dsimp only;rw[hst];refine wpAny_bind (seqEpoch_at ho3 rfl ?_);refine wpAny_bind (listUpdate_at ho3 rfl ?_ (zero_le _) (by rw[size_toArray,hul];omega));rw[p3];simp only[bne_self_eq_false,Bool.false_eq_true,if_false];exact wpAny_pure hP
end
def xY:List V->Hp->VK->Prop:=λvs H Q=>∃(a:Addr)(kvs:List (A4×V)),vs=[.ref a]/\H a=some (.dK kvs)/\kvs.length<128/\∃xs:List Str,kvs.map (·.1)=xs.map Sum.inr/\xs.Nodup/\
 ∀(q:Addr),H q=none->Q (.ref q) (upd H q (.lst ((G4 F5 xs).map V.str)))
section
variable{X:Cx}
theorem Hd(hc:X.calm=true):CallR X (.builtin "sorted") xY:=by
 intro ζ s σ H vs us Q I rv h;obtain⟨a,kvs,rfl,ha,h64,xs,hkeys,nd,q⟩:=h;obtain⟨u,rfl,ru⟩:=M3 rv;cases ru;obtain⟨zl,hd,dvs,rel,dd⟩:=T8 I.hok ha;obtain⟨ep,dat⟩:=dd.dictAt;have hlen:=rel.length;have hkv:kvs.map (·.1)=dvs.map (·.1):=rel.keys;refine Calls.call_function_entry kind_sorted plain_sorted entry_sorted (args_sorted1 _) ?_;unfold Builtin.«sorted»;refine wpAny_bind (m:=checkCount "sorted" 1 1 _) (wpAny_pure ?_);refine wpAny_bind (kdu_collect (kdl_dict hd) (show X.A.in1.handled=none from I.ok.hd hc) dat (by rw[←hlen];exact zl) λh1 tk acc hk items=>?_);have I1:Inv X ζ σ H {s with heap:=h1,toks:=tk}:=I.kept hk;have hacc:acc.toList.length=kvs.length:=by rw[Array.length_toList,items.1,hlen]
 have hxl:xs.length=kvs.length:=by
  have z:=congrArg length hkeys;rw[length_map,length_map]at z;exact z.symm
 have rvs:Vals (xs.map V.str) acc.toList:=by
  have key:∀(l:List Str)(m:List Value),l.length=m.length->(∀(j:Nat)(x:Str)(v:Value),l[j]?=some x->m[j]?=some v->∃t,v=Value.str x t)->Vals (l.map V.str) m:=by
   intro l
   induction l with
   |nil=>intro m hm _;cases m with
    |nil=>exact .nil
    |cons _ _=>simp at hm
   |cons x l ih=>intro m hm hj;cases m with
    |nil=>simp at hm
    |cons v m=>exact .cons (hj 0 x v rfl rfl) (ih m (by simpa using hm) λj y w h1 h2=>hj (j+1) y w (by simpa using h1) (by simpa using h2))
  refine key xs acc.toList (!1) λj x v q1 q2=>?_
  obtain⟨k',y,e1,e2⟩:=items.2 j v (by rw[←Array.getElem?_toList];exact q2);have e3:(dvs.map (·.1))[j]?=some k':=by rw[getElem?_map,e1];rfl
  rw[←hkv,hkeys,getElem?_map,q1]at e3;have e4:Sum.inr x=k':=Option.some.inj e3;subst e4;exact Value.isStrOf_shape (x:=x) (v:=v) e2
 refine wpAny_bind (wpAny_newList ?_ (by rw[hacc];exact zl));have I2:Inv X ζ σ H {s with heap:=h1.push {cls:=.type "list",data:=.seq acc.toList.toArray},toks:=tk}:=I1.kept λb o z=>Heap.get?_push_of_some _ z
 have fD:E7 X ζ H h1.objs.size:=I1.fpOk (le_refl _) (I1.hok.fresh (le_refl _));have hD:(h1.push {cls:=.type "list",data:=.seq acc.toList.toArray}).get? h1.objs.size=some (seqObj "list" (toArray acc.toList) 0):=Heap.get?_push_size _ rfl;refine wpAny_bind (wpAny_holding (wpAny_call_entry slot_list_sort ⟨_,hD,rfl⟩ entry_list_sort ?body (args_list_sort _)))
 case body=>
  refine Hc (X:=Y8 X) (jU I2) hD fD rvs (!1) nd λs' us' n' I' hn' hD' rv'=>?_
  refine⟨_,rfl,wpAny_pure ⟨_,rfl,?_⟩⟩;have fD':E7 X ζ H h1.objs.size:=⟨hn',fD.2⟩;refine⟨.ref h1.objs.size,upd H h1.objs.size (.lst ((G4 F5 xs).map V.str)),cN (jV I') fD' I1.sz ?_,rfl,q _ hn'⟩;refine⟨by rw[length_map,(dN xs).length_eq,hxl];exact zl,us',n',rv',hD'⟩
end
end Rg
namespace Rg
open PySem L2
def GlbAt(K:Frag)(x:Str)(st:Stmt):Prop:=∃(f:Addr)(fd:FuncData),nsIn K mainGlobals x=some (some (.ref f))/\Fun K x x st f fd
def MthAt(K:Frag)(C:Addr)(x q:Str)(st:Stmt):Prop:=∃(f:Addr)(fd:FuncData),findIn K (.ref C) x=some (some (.ref f))/\isFn K (.ref f)=true/\Fun K x q st f fd
theorem He{K:Frag}{x:Str}{st:Stmt}{f:Addr}{oc:Value}{od an:Option Addr}{osl:Array (Option Value)}{kV doc pm cdv ct:Value}(a:nsIn K mainGlobals x=some (some (.ref f)))(l:K.lookup f=some ⟨oc,od,.func (fnOf x x (R3 st) (N5 st) (B4 st) .none kV doc pm an cdv ct),osl⟩)
  (c:codeIn K cdv x=true) (k:keepIn K (.ref f)=true):GlbAt K x st:=⟨_,_,a,fG l c k⟩
theorem Hf{K:Frag}{C:Addr}{x q:Str}{st:Stmt}{f:Addr}{oc:Value}{od an:Option Addr}{osl:Array (Option Value)}{kV doc pm cdv ct:Value}(a:findIn K (.ref C) x=some (some (.ref f)))(i:isFn K (.ref f)=true)(l:K.lookup f=some ⟨oc,od,.func (fnOf x q (R3 st) (N5 st) (B4 st) .none kV doc pm an cdv ct),osl⟩)
  (c:codeIn K cdv q=true) (k:keepIn K (.ref f)=true):MthAt K C x q st:=⟨_,_,a,i,fG l c k⟩
structure ClsAt(K:Frag)(c:Str)(C:Addr):Prop where
 a:nsIn K mainGlobals c=some (some (.ref C))
 cl:Cls K C
 mks:makesIn K C=true
 kc:keepIn K (.ref C)=true
theorem Hg{K:Frag}{c:Str}{C:Addr}(a:nsIn K mainGlobals c=some (some (.ref C)))(pg:plainGet K C Str.empty=true)(hd:hasDictIn K C=true)(po:plainOver K C=true)
  (sa:findIn K (.ref C) "__setattr__"=some (some (.builtin "object.__setattr__"))) (mk:makesIn K C=true) (kc:keepIn K (.ref C)=true):ClsAt K c C:=⟨a,⟨pg,hd,po,sa⟩,mk,kc⟩
def NoF(K:Frag)(C:Addr):List Str->Prop
 |[]=>True
 |f::l=>findIn K (.ref C) f=some none/\NoF K C l
theorem NoF.all{K:Frag}{C:Addr}:∀{l:List Str},NoF K C l->∀f∈l,findIn K (.ref C) f=some none
 |[],_,f,hf=>absurd hf (not_mem_nil)
 |a::l,h,f,hf=>by
  rcases mem_cons.mp hf with rfl|hf
  ·exact h.1
  ·exact NoF.all h.2 f hf
def xZ(K:Frag):List Str->Prop
 |[]=>True
 |f::l=>nsIn K mainGlobals f=some none/\xZ K l
end Rg
namespace Rg
open PySem L2
structure Tg(P:Program)(w:World)(K:Frag)(mg:Str->Option Value)(base:Heap):Prop where
 m:∀{x:Str}{v:Value},nsIn K mainGlobals x=some (some v)->mg x=some v
section
variable{P:Program}{w:World}{K:Frag}{mg:Str->Option Value}{base:Heap}{x q:Str}{st:Stmt}{k:Nat}{ps:List Str}{sp:Sp}{C:Addr}
theorem GlbAt.has(p:GlbAt K x st)(Z:Tg P w K mg base)(o:∀{f fd},Fun K x x st f fd->FnOk P w K mg base B9 k f fd ps sp)(b:∀{f fd},Fun K x x st f fd->Binds K fd ps []):C4 P w K mg base x k ps sp:=by
 obtain⟨f,fd,a,F⟩:=p;exact⟨f,fd,o F,b F,F.kp,Z.m a⟩
theorem MthAt.has(p:MthAt K C x q st)(Z:Tg P w K mg base)(c:Cls K C)(o:∀{f fd},Fun K x q st f fd->FnOk P w K mg base B9 k f fd ps sp)(b:∀{f fd},Fun K x q st f fd->Binds K fd ps []):P9 P w K mg base C x k ps sp:=by
 obtain⟨f,fd,a,i,F⟩:=p;exact⟨f,fd,o F,b F,⟨a,i,F.kp⟩,c⟩
theorem MthAt.hasC{cn:Str}(p:MthAt K C "__init__" q st)(Z:Tg P w K mg base)(c:ClsAt K cn C)(o:∀{f fd},Fun K "__init__" q st f fd->FnOk P w K mg base B9 k f fd ps sp)(b:∀{f fd},Fun K "__init__" q st f fd->Binds K fd ps []):lG P w K mg base cn C k ps sp:=by
 obtain⟨f,fd,a,i,F⟩:=p;exact⟨f,fd,o F,b F,⟨c.mks,a,i,c.kc⟩,Z.m c.a⟩
end
end Rg
namespace Rg
open PySem L2
section
variable{P:Program}{w:World}{K:Frag}{mg:Str->Option Value}{base:Heap}{x q:Str}{st:Stmt}{k n:Nat}{ps:List Str}{sp:Sp}{C G:Addr}{fF:List V->List (Str×V)}
theorem GlbAt.hasX(p:GlbAt K x st)(Z:Tg P w K mg base)(o:∀{f fd},Fun K x x st f fd->FnOk P w K mg base (F9 P w) k f fd ps sp)(b:∀{f fd},Fun K x x st f fd->Binds K fd ps []):M9 P w K mg base x k ps sp:=by
 obtain⟨f,fd,a,F⟩:=p;exact⟨f,fd,o F,b F,F.kp,Z.m a⟩
end
end Rg
namespace Rg
open PySem PySem.W PySem.Spec PyProof.Rows L2
def nD(P:Addr)(H:Hp):Prop:=H P=some (.tbl #[])/\∀b,b≠P->H b=none∨∃o xs,H b=some (.frz o (.lst xs))
theorem Hi{P:Program}{w:World}{K:Frag}{mg mb:Str->Option Value}{CX:O9}{k:Nat}{fa a c Pt:Addr}{fd:FuncData}{x:Str}{sp:Sp}{s₁:Shared}{vs:List Value}{ns:List Int}
  (KX:K.In s₁.heap) (hns:s₁.heap.Ns mainGlobals mg) (hb:s₁.heap.Ns builtinsNs mb) (hbb:∀x:Str,x≠"__name__"->mb x=bootBuiltins x) (hlim:s₁.heap.NoLimit) (hg:s₁.gens=#[])
  (hbm:BM mg s₁.heap) (hPk:K.lookup Pt=none) (hPt:s₁.heap.TableAt c Pt #[])
  (ha:s₁.heap.get? a=some {cls:=.type "list",data:=.seq vs.toArray}) (hi:IntsAre vs ns) (hl:ns.length<=sizeLine) (hr:Room k callerA)
  (F:∀base:Heap,K.In base->base.Ns mainGlobals mg->BM mg base->FnOk P w K mg base CX k fa fd [x] sp) (hbind:∀(s:Shared)(u:Value),BindsTo s fd ⟨[u],[]⟩ [(x,u)])
  (hsp:∀H:Hp,nD Pt H->SqL K H a (ns.map V.int)->sp [.ref a] H (λv _=>v=.bl true) λ_ _ _=>False)
  (hCX:∀H e s',CX [] H s₁ (λ_ _ _=>False) e s'->False):
  codeAny (model P w) callerA (.call (.ref fa) ⟨[.ref a],[]⟩) (λr s'=>r=.ok (.ret (.bool true))/\OldK s₁.heap s'.heap/\s'.os=s₁.os/\AllBare s'.gens) s₁:=by
 have rv:=sF hi;have lenV:=hi.length;have hPg:s₁.heap.get? Pt=some {cls:=.none,data:=.fields #[]}:=hPt.2;have hPa:Pt≠a:=λz=>by
  rw[z,ha]at hPg;cases hPg
 have core:∀H:Hp,nD Pt H->SqL K H a (ns.map V.int)->HOk P w H s₁.heap->(∀b,H b≠none->b=a∨b=Pt)->(H a≠none->K.lookup a=none)->
   codeAny (model P w) callerA (.call (.ref fa) ⟨[.ref a],[]⟩) (λr s'=>r=.ok (.ret (.bool true))/\OldK s₁.heap s'.heap/\s'.os=s₁.os/\AllBare s'.gens) s₁:=by
  intro H hO hS hok hA hK;have base_of:∀{b:Addr}{o:Obj},s₁.heap.get? b=some o->H b=none->(T6 s₁.heap H).get? b=some o:=λe n=>AM e n
  have noA:∀{b:Addr}{o:Obj},s₁.heap.get? b=some o->(∀xs n,o.data≠.seq xs n)->(∀xs,o.data≠.fields xs)->H b=none:=λ{b o} e d1 d2=>by
   cases q:H b with
   |none=>rfl
   |some u=>
    rcases hA b (by rw[q];simp)with e'|e'
    ·subst e'
     rw[ha]at e;cases e;exact absurd rfl (d1 _ _)
    ·subst e'
     rw[hPg]at e;cases e;exact absurd rfl (d2 _)
  have nsK:∀{b:Addr}{m:Str->Option Value},s₁.heap.Ns b m->(T6 s₁.heap H).Ns b m:=λ{b m} ⟨o,es,ep,e,d,r⟩=>⟨o,es,ep,base_of e (noA e (λxs n z=>by rw[d]at z;cases z) λxs z=>by rw[d]at z;cases z),d,r⟩
  have hKb:K.In (T6 s₁.heap H):=λb o e=>base_of (KX b o e) (by
   cases q:H b with
   |none=>rfl
   |some u=>
    rcases hA b (by rw[q];simp)with e'|e'
    ·subst e'
     rw[hK (by rw[q];simp)]at e;cases e
    ·subst e'
     rw[hPk]at e;cases e)
  have hBb:BM mg (T6 s₁.heap H):=by
   obtain⟨bm,ob,b1,b2,b3,b4,b5,b6⟩:=hbm;exact⟨bm,ob,b1,b2,base_of b3 (noA b3 (λxs n z=>by rw[b6]at z;cases z) λxs z=>by rw[b6]at z;cases z),b4,b5,b6⟩
  have hM:Mod K mg (T6 s₁.heap H):=⟨hKb,nsK hns,⟨mb,nsK hb,hbb⟩,let⟨mc,h1,h2⟩:=hlim;⟨mc,nsK h1,h2⟩⟩;have e0:Env0 P w K mg (T6 s₁.heap H) callerA [] s₁ H:=⟨rfl,hM,λb o e=>AN e,le_of_eq (AL _ _),trivial,λb hb=>absurd (show b∈([]:List Addr)from hb) (!2),hok,.of_eq hg⟩;refine codeAny_mono ((F _ hKb (nsK hns) hBb).run callerA [] s₁ H ⟨[.ref a],[]⟩ [.ref a] [.ref a] _ _ hr e0 (hbind s₁ (.ref a)) (.cons rfl .nil) (hsp H hO hS)) λr s' h=>?_
  cases r with
  |error e=>exact(hCX H e s' h).elim
  |ok fl=>
   cases fl with
   |next=>exact False.elim h
   |brk=>exact False.elim h
   |cont=>exact False.elim h
   |ret u=>
    obtain⟨v,H',os,bare,un,hok',r',q⟩:=h;have q':v=.bl true:=q;subst q';obtain rfl:u=Value.bool true:=r';refine⟨rfl,⟨λb o e=>?_,λb o e=>un.there b o e (!2)⟩,os,bare⟩;cases q:H b with
    |none=>exact .inl (un.keep b o e q (by intro z;exact absurd (show b∈([]:List Addr)from z) (!2)) (!2))
    |some u=>
     by_cases hbP:b=Pt
     ·subst hbP
      obtain⟨more,e2⟩:=un.tbls b _ hO.1;have e3:s'.heap.get? b=some {cls:=.none,data:=.fields (#[]++more)}:=hok' b _ e2;rw[hPg]at e;cases e;exact .inr (.inl ⟨hPt.isCodeTable,rfl,#[],more,rfl,e3⟩)
     ·rcases hO.2 b hbP with z|⟨ob,xs,z⟩
      ·rw[q]at z;cases z
      ·have z2:=un.frzs b ob _ z
       obtain⟨e1,_⟩:=hok b _ z;obtain⟨e2,_⟩:=hok' b _ z2;rw[e]at e1;cases e1;exact .inl e2
 have okP:∀H:Hp,ObjOk P w H s₁.heap Pt (.tbl #[]):=λH=>hPg
 cases hk:K.lookup a with
 |some o=>
  have e:=KX a o hk;rw[ha]at e;cases e;refine core (λb=>if b=Pt then some (.tbl #[])else none) ⟨if_pos rfl,λb hb=>.inl (if_neg hb)⟩ (.inr ⟨_,vs.toArray,_,hk,rfl,rfl,rfl,by rw[size_toArray,lenV];exact hl,by simpa using rv⟩) (λb u z=>?_) (λb z=>?_) λz=>absurd (if_neg (Ne.symm hPa)) z
  ·by_cases hb:b=Pt
   ·have z':=(if_pos hb).symm.trans z
    cases z';subst hb;exact okP _
   ·have z':=(if_neg hb).symm.trans z
    cases z'
  ·by_cases hb:b=Pt
   ·exact .inr hb
   ·exact absurd (if_neg hb) z
 |none=>
  refine core (λb=>if b=Pt then some (.tbl #[])else if b=a then some (.frz {cls:=.type "list",data:=.seq vs.toArray} (.lst (ns.map V.int)))else none) ⟨if_pos rfl,λb hb=>?_⟩ (.inl (.inr ⟨{cls:=.type "list",data:=.seq vs.toArray},?_⟩)) (λb u z=>?_) (λb z=>?_) λ_=>hk
  ·by_cases hb2:b=a
   ·exact .inr ⟨_,_,(if_neg hb).trans (if_pos hb2)⟩
   ·exact .inl ((if_neg hb).trans (if_neg hb2))
  ·exact(if_neg (Ne.symm hPa)).trans (if_pos rfl)
  ·by_cases hb:b=Pt
   ·have z':=(if_pos hb).symm.trans z
    cases z';subst hb;exact okP _
   ·have z':=(if_neg hb).symm.trans z
    by_cases hb2:b=a
    ·have z2:=(if_pos hb2).symm.trans z'
     cases z2;subst hb2;exact⟨ha,by rw[length_map];exact hl,vs,_,rv,ha⟩
    ·have z2:=(if_neg hb2).symm.trans z'
     cases z2
  ·by_cases hb:b=Pt
   ·exact .inr hb
   ·by_cases hb2:b=a
    ·exact .inl hb2
    ·exact absurd ((if_neg hb).trans (if_neg hb2)) z
theorem Hj{l:PySem.W.OpenLaw}{n k:Nat}{q:Program}{loose:List Str}{XP:(Str->Option Value)->Heap->Prop}{YP:World->Heap->Prop}{d:DefRec}{K:Params->Frag}{CX:World->O9}{sp:World->Sp}{x:Str}{c Pt:Addr}
  (hn:l.most=some n) (hn2:n<=sizeLine) (hdf:d.params.defaults=[]) (hr:Room k callerA)
  (hY:∀(w:World)(h:Heap),YP w h->(K w.params).In h/\h.get? Pt=some (tabObj #[])) (hPk:∀w:World,(K w.params).lookup Pt=none) (hC:∀w:World,codeHdIn (K w.params) c Pt=true)
  (F:∀(w:World)(mg:Str->Option Value)(fa:Addr)(h:Heap),(K w.params).In h->h.Ns mainGlobals mg->mg d.name=some (.ref fa)->
   ∃fd:FuncData,(∀(s:Shared)(u:Value),BindsTo s fd ⟨[u],[]⟩ [(x,u)])/\
    ∀base:Heap,(K w.params).In base->base.Ns mainGlobals mg->BM mg base->FnOk l.prog w (K w.params) mg base (CX w) k fa fd [x] (sp w))
  (hsp:∀(w:World)(H:Hp)(a:Addr)(ns:List Int),ns.length<=n->nD Pt H->SqL (K w.params) H a (ns.map V.int)->sp w [.ref a] H (λv _=>v=.bl true) λ_ _ _=>False)
  (hCX:∀(w:World)(H:Hp)(s:Shared)(e:Value)(s':Shared),CX w [] H s (λ_ _ _=>False) e s'->False):
  PySem.W.WalkO q loose XP YP l.row.toRowW d [] (λf vs=>PySem.call f vs):=by
 refine Att.CP hn hdf λw s₀ s₁ mg mb fa o pm cd doc a vs ns G Y ho hd hcd hmg hobj hints hlen hg=>?_
 obtain⟨KX,hT⟩:=hY w _ Y;obtain⟨fd,hb,hF⟩:=F w mg fa _ KX G.T.g hmg;exact Hi KX G.T.g G.T.b G.T.builtins G.T.nolimit hg G.T.bmain (hPk w) ((codeHd_of_K KX (hC w)).tab hT) hobj hints (le_trans hlen hn2) hr hF hb (λH hO hS=>hsp w H a ns hlen hO hS) λH e s'=>hCX w H s₁ e s'
end Rg
namespace Rg
open PySem L2
def yA(K:Frag)(x:Str)(st:Stmt)(c:Addr):Prop:=∃(f:Addr)(oc kV doc pm ct:Value)(od an:Option Addr)(osl:Array (Option Value)),nsIn K mainGlobals x=some (some (.ref f))/\K.lookup f=some ⟨oc,od,.func (fnOf x x (R3 st) (N5 st) (B4 st) .none kV doc pm an (.ref c) ct),osl⟩/\codeIn K (.ref c) x=true/\keepIn K (.ref f)=true
theorem Hk{K:Frag}{x:Str}{st:Stmt}{c f:Addr}{oc kV doc pm ct:Value}{od an:Option Addr}{osl:Array (Option Value)}(a:nsIn K mainGlobals x=some (some (.ref f)))(l:K.lookup f=some ⟨oc,od,.func (fnOf x x (R3 st) (N5 st) (B4 st) .none kV doc pm an (.ref c) ct),osl⟩)(cd:codeIn K (.ref c) x=true)(k:keepIn K (.ref f)=true):yA K x st c:=
 ⟨f,oc,kV,doc,pm,ct,od,an,osl,a,l,cd,k⟩
theorem Hl{P:Program}{w:World}{K:Frag}{mg:Str->Option Value}{base:Heap}{x:Str}{C G:Addr}(Z:Tg P w K mg base)(a:nsIn K mainGlobals x=some (some (.ref C)))(k:keepIn K (.ref C)=true)(c:XCn K C G):HasN P w K mg base x C G:=⟨Z.m a,k,c⟩
end Rg
open PySem L2 Rg
local macro_rules|`(tactic| walk_at"ln")=>`(tactic| (intro vs H Q E h;first|(obtain⟨_,e,_⟩:=h;subst e;rfl)|(obtain⟨_,_,e,_⟩:=h;subst e;rfl)|(obtain⟨_,_,_,e,_⟩:=h;subst e;rfl)|(obtain⟨_,_,_,_,e,_⟩:=h;subst e;rfl)|(obtain⟨_,_,_,_,_,e,_⟩:=h;subst e;rfl)|(obtain⟨_,_,_,_,_,_,e,_⟩:=h;subst e;rfl)|(obtain⟨_,_,_,_,_,_,_,e,_⟩:=h;subst e;rfl)|(obtain⟨_,_,_,_,_,_,_,_,e,_⟩:=h;subst e;rfl)|(obtain⟨_,_,_,_,_,_,_,_,_,e,_⟩:=h;subst e;rfl)|(obtain⟨_,_,_,_,_,_,_,_,_,_,e,_⟩:=h;subst e;rfl)|(obtain⟨_,_,_,_,_,_,_,_,_,_,_,e,_⟩:=h;subst e;rfl)|(obtain⟨_,_,_,_,_,_,_,_,_,_,_,_,e,_⟩:=h;subst e;rfl)|(obtain⟨_,_,_,_,_,_,_,_,_,_,_,_,_,e,_⟩:=h;subst e;rfl)))
local macro_rules|`(tactic| walk_at"none")=>`(tactic| first|assumption|exact nn (by first|assumption|exact nn (by first|assumption|exact nn (by first|assumption|exact nn (by first|assumption|exact nn (by first|assumption|exact nn (by assumption)))))))
local macro_rules|`(tactic| walk_at"ne1")=>`(tactic| first
 |assumption
 |exact nx (by walk_at"none")
 |exact E6 (by assumption) (by walk_at"none"))
local macro_rules|`(tactic| walk_at"ne")=>`(tactic| first
 |walk_at"ne1"
 |(refine Ne.symm ?_;walk_at"ne1"))
local macro_rules|`(tactic| walk_at"hp")=>`(tactic| first
 |assumption
 |exact A6
 |(refine J6 (by walk_at"ne") ?_;walk_at"hp"))
local macro_rules|`(tactic| walk_at"fr")=>`(tactic| first
 |assumption
 |exact Fr.refl _ _
 |exact Same.fr (by assumption)
 |(refine Fr.new ?_ (by walk_at"none");walk_at"fr")
 |(refine Fr.set ?_ (by assumption) (by simp) rfl;walk_at"fr"))
local macro_rules|`(tactic| walk_at"sm")=>`(tactic| first
 |assumption
 |exact Same.refl _
 |(refine Same.put ?_ (by walk_at"none");walk_at"sm"))
local macro_rules|`(tactic| walk_at"few1")=>`(tactic| first
 |decide
 |(refine uY ?_;walk_at"few1")
 |exact(by decide:7<1000)
 |exact(by decide:12<1000))
local macro_rules|`(tactic| walk_at"few")=>`(tactic| first
 |decide
 |(refine Fo ?_;walk_at"few1")
 |exact(by decide:6<1000)
 |exact(by decide:3<1000)
 |exact(by decide:4<1000)
 |exact(by decide:10<1000)
 |simp)
local macro_rules|`(tactic| walk_at"sc")=>`(tactic| exact⟨rfl,rfl,rfl,by decide +kernel,rfl,by decide +kernel,by decide +kernel⟩)
local macro_rules|`(tactic| walk_at"s7")=>`(tactic| exact⟨by decide +kernel,rfl,by decide +kernel,by decide +kernel,by decide +kernel,by decide +kernel,by decide +kernel⟩)
local macro_rules|`(tactic| walk_at"fs")=>`(tactic| (dsimp only[Fm.sort];decide +kernel))
namespace K03
open PySem L2 Rg
def E5(i:Nat):Stmt:=PySem.Challenge.pw_recordgate_k03_thing_texts_go_round.main.body.getD i (.Pass ⟨0,0,0,0⟩)
abbrev iC:Stmt:=E5 6
abbrev nE:Stmt:=E5 7
abbrev nF:Stmt:=E5 8
abbrev dS:Stmt:=E5 9
abbrev nG:Stmt:=E5 10
abbrev nH:Stmt:=E5 11
abbrev nI:Stmt:=E5 17
abbrev nJ:Stmt:=E5 18
abbrev iD:Stmt:=E5 19
abbrev nK:Stmt:=fE (E5 20) 0
abbrev nL:Stmt:=fE (E5 20) 1
abbrev nM:Stmt:=fE (E5 20) 2
abbrev nO:Stmt:=fE (E5 20) 3
abbrev nQ:Stmt:=E5 21
abbrev dU:Stmt:=E5 22
abbrev nR:Stmt:=E5 23
abbrev iE:Stmt:=E5 24
abbrev iF:Stmt:=E5 25
abbrev nS:Stmt:=E5 26
abbrev nU:Stmt:=E5 27
abbrev nV:Stmt:=E5 30
abbrev nW:Stmt:=E5 31
abbrev nX:Stmt:=E5 32
abbrev nY:Stmt:=E5 33
abbrev dW:Stmt:=E5 34
abbrev S9:Stmt:=E5 35
abbrev bS:Stmt:=E5 36
abbrev bU:Stmt:=E5 37
abbrev nZ:Stmt:=E5 38
abbrev iG:Stmt:=E5 39
abbrev oA:Stmt:=E5 40
abbrev V8:Stmt:=E5 41
structure Glo(mg:Str->Option Value):Prop where
 LETTERS:∃t,mg "LETTERS"=some (.str "abcdefghijklmnopqrstuvwxyz" t)
 LONGEST_NAME:∃t,mg "LONGEST_NAME"=some (.int 8 t)
 FIGURES:∃t,mg "FIGURES"=some (.str "0123456789" t)
 MOST_FIGURES:∃t,mg "MOST_FIGURES"=some (.int 60 t)
 LARGEST:∃t,mg "LARGEST"=some (.int 100 t)
 DEEPEST:∃t,mg "DEEPEST"=some (.int 20 t)
section
variable{P:Program}{w:World}{K:Frag}{mg:Str->Option Value}{base:Heap}{f:Addr}{fd:FuncData}
def Q7(z:Str):Bool:=decide (1<=z.length)&&decide (z.length<=8)&&z.cps.toList.all bH
def oB:Sp:=λvs H Q _=>∃z:Str,vs=[.str z]/\Asc z/\z.length<=100000/\∀H',Same H H'->Q (.bl (Q7 z)) H'
theorem Hm:FnScope ["text"] ["text"] (B4 iC):=by walk_at"sc"
theorem Hn(F:Fun K "is_name" "is_name" iC f fd)(B:Blt mg)(G:Glo mg):FnOk P w K mg base B9 1 f fd ["text"] oB:=by
 refine F.ok Hm (by walk_at"ln") (λcdv A outer s H vs Q E hr h=>?_);obtain⟨z,rfl,hz,hl,q⟩:=h;have hu:=F6 hr;refine F8 (A5 (C5 (P8 (uI gH gH A2 (F4 (V1 K) rfl B.len boot_len (A0 (qv 0) A1)) (dA rfl G.LONGEST_NAME) rfl)) (A8 (B7 S5)) C7)
  (A8 (B7 (F4 (gJ rfl) rfl B.all PyProof.Rows.boot_all (A0 (W8 rfl (.inl rfl) (vD K (qv 0)) (LcStG.ok (sc:=B4 iC) (N:=["text"]) (fr:=[]) (by walk_at"s7") rfl rfl) (λ_ _ _ _=>W7) (λ_ _ _ _=>(aY lM (qv 0) (cZ rfl G.LETTERS) rfl))) A1))))) ?_
 refine⟨_,rfl,dB (le_of_lt (J7 _ hl)) ⟨_,_,rfl,rfl,_,rfl,?_⟩⟩;have hlen:z.cps.size=z.length:=rfl;by_cases h1:(1:Int)<=(z.length:Nat)
 ·refine M8 (decide_eq_true h1) ⟨_,_,rfl,rfl,_,rfl,?_⟩
  by_cases h2:((z.length:Nat):Int)<=8
  ·rw[decide_eq_true h2]
   refine B5 ⟨_,rfl,z,rfl,hz,W6 vE (λi ys H'=>H=H'/\ys=((z.cps.toList.take i).map bH).map V.bl) (N8 (!1)) ⟨rfl,rfl⟩ (λi ys H' hi y=>?_) (λi x ys H2 H3 hi y w'=>?_) (λys H2 y r hr'=>?_)⟩
   ·obtain⟨rfl,rfl⟩:=y
    exact⟨trivial,by rw[length_map,length_map,length_take];omega⟩
   ·obtain⟨rfl,rfl⟩:=y
    obtain⟨rfl,c,hc,rfl⟩:=w';refine⟨_,rfl,rfl,⟨_,rfl,_,_,rfl,rfl,rfl,?_⟩⟩;rw[FF (hz.at hc),take_succ,show z.cps.toList[i]?=some c from by rw[←hc];simp,map_append,map_append];rfl
   ·obtain⟨rfl,rfl⟩:=y
    refine⟨r,_,rfl,A6,?_⟩;have e:Q7 z=((z.cps.toList.take z.cps.size).map bH).all id:=by
     unfold Q7;rw[decide_eq_true (show 1<=z.length by omega),decide_eq_true (show z.length<=8 by omega),take_of_length_le (!2),all_map];rfl
    rw[←e];exact q _ (C3 hr' _)
  ·rw[decide_eq_false h2]
   have e:Q7 z=false:=by
    unfold Q7;rw[decide_eq_false (show ¬z.length<=8 by omega)];simp
   refine D0 ?_;rw[←e];exact q _ (Same.refl _)
 ·have e:Q7 z=false:=by
   unfold Q7;rw[decide_eq_false (show ¬1<=z.length by omega)];rfl
  refine P0 (decide_eq_false h1) ⟨_,rfl,D0 ?_⟩;rw[←e];exact q _ (Same.refl _)
theorem dX{z:Str}:Asc z↔∀c∈z.cps.toList,c<128:=by
 unfold Asc;rw[←Array.all_toList,all_eq_true];exact⟨λh c hc=>of_decide_eq_true (h c hc),λh c hc=>decide_eq_true (h c hc)⟩
theorem Ho{z:Str}(h:Asc z):Asc (L4 z)/\(L4 z).length<=z.length:=by
 unfold L4;by_cases hs:Txt.startswith z "-"=true
 ·rw[if_pos hs]
  obtain⟨cs,e⟩:=(gM z).mp hs;have h':=dX.mp h;rw[e]at h';exact⟨dX.mpr (by rw[gN e];exact λc hc=>h' c (mem_cons_of_mem _ hc)),Txt.slice_le _ _ _⟩
 ·rw[if_neg hs];exact⟨h,le_refl _⟩
def yB:Sp:=λvs H Q _=>∃z:Str,vs=[.str z]/\Asc z/\z.length<=100000/\∀H',Same H H'->Q (.bl (Q1 z)) H'
theorem yC:FnScope ["text","figures"] ["text"] (B4 iD):=by walk_at"sc"
theorem Hq(F:Fun K "is_number" "is_number" iD f fd)(B:Blt mg)(G:Glo mg):FnOk P w K mg base B9 1 f fd ["text"] yB:=by
 refine F.ok yC (by walk_at"ln") (λcdv A outer s H vs Q E hr h=>?_);obtain⟨z,rfl,hz,hl,q⟩:=h;have hu:=F6 hr;have nd:=yC.nd;refine F8 (lC (C8 (i:=1) nd rfl (Or.inl rfl) (EW (E2 K (M5 K PySem.F.plainAttrs_str PySem.F.slot_str_startswith PySem.F.type_str_startswith FD (qv 0) (A0 D1 A1)) (λ_=>rfl)) (vG (qv 0) (gD A2) uJ) (qv 0)))
  (A5 (C5 (P8 (uI gH gH A2 (F4 (V1 K) rfl B.len boot_len (A0 (qv 1) A1)) (dA rfl G.MOST_FIGURES) rfl)) (A8 (B7 S5)) C7)
  (A5 (C5 (P8 (E2 K (F4 (gJ rfl) rfl B.all PyProof.Rows.boot_all (A0 (W8 rfl (.inl rfl) (vD K (qv 1)) (LcStG.ok (sc:=B4 iD) (N:=["text","figures"]) (fr:=[]) (by walk_at"s7") rfl rfl) (λ_ _ _ _=>W7) (λ_ _ _ _=>(aY lM (qv 0) (cZ rfl G.FIGURES) rfl))) A1)) (λ_=>rfl))) (A8 (B7 S5)) C7)
  (A8 (B7 (aY O2 (Z5 vF rfl B.str boot_str (A0 (Z5 lO rfl B.int boot_int (A0 (qv 0) A1)) A1)) (qv 0) rfl)))))) ?_
 refine⟨fun σ' H'=>H=H'/\σ'=[some (.str z),some (.str (L4 z))],?_,?_⟩
 ·refine⟨_,rfl,rfl,z,"-",rfl,rfl,⟨_,rfl,?_⟩⟩
  by_cases hs:Txt.startswith z "-"=true
  ·refine M8 hs ⟨_,rfl,_,rfl,z,rfl,le_of_lt (J7 _ hl),rfl,?_⟩
   unfold L4;rw[if_pos hs];rfl
  ·refine P0 (Bool.eq_false_iff.mpr hs) ⟨_,rfl,rfl,?_⟩
   unfold L4;rw[if_neg hs];rfl
 ·rintro σ' H' ⟨rfl,rfl⟩
  obtain⟨ha,hfl⟩:=Ho hz;generalize hg:L4 z=g at ha hfl ⊢;have no:Q1 z=false->∀H',Same H H'->Q (.bl false) H':=λe H' sm=>by
   have:=q H' sm
   rwa [e]at this
  refine⟨_,rfl,dB (le_of_lt (J7 _ (!1))) ⟨_,_,rfl,rfl,_,rfl,?_⟩⟩;by_cases h1:(1:Int)<=(g.length:Nat)
  ·refine M8 (decide_eq_true h1) ⟨_,_,rfl,rfl,_,rfl,?_⟩
   by_cases h2:((g.length:Nat):Int)<=60
   ·rw[decide_eq_true h2]
    refine B5 ⟨_,rfl,g,rfl,ha,W6 vE (λi ys H'=>H=H'/\ys=((g.cps.toList.take i).map L3).map V.bl) (N8 (by have:g.cps.size=g.length:=rfl;omega)) ⟨rfl,rfl⟩ (λi ys H' hi y=>?_) (λi x ys H2 H3 hi y w'=>?_) (λys H2 y r hr'=>?_)⟩
    ·obtain⟨rfl,rfl⟩:=y
     exact⟨trivial,by rw[length_map,length_map,length_take];omega⟩
    ·obtain⟨rfl,rfl⟩:=y
     obtain⟨rfl,c,hc,rfl⟩:=w';refine⟨_,rfl,rfl,⟨_,rfl,_,_,rfl,rfl,rfl,?_⟩⟩;rw[FG (ha.at hc),take_succ,show g.cps.toList[i]?=some c from by rw[←hc];simp,map_append,map_append];rfl
    ·obtain⟨rfl,rfl⟩:=y
     have eall:((g.cps.toList.take g.cps.size).map L3).all id=g.cps.toList.all L3:=by rw[take_of_length_le (!2),all_map];rfl
     refine⟨r,_,rfl,A6,_,rfl,?_⟩;rw[eall];have sm:=C3 hr' (.lst (((g.cps.toList.take g.cps.size).map L3).map V.bl));cases h3:g.cps.toList.all L3 with
     |false=>
      refine D0 (no ?_ _ sm);unfold Q1;rw[hg,h3];simp
     |true=>
      obtain⟨n,en,hn,hz'⟩:=vH (z:=z) (by rw[hg];omega) (by rw[hg];omega) (by rw[hg];exact h3);refine B5 ⟨_,rfl,.inr ⟨z,n,rfl,en,!1,n,rfl,lR hn,_,rfl,rfl,?_⟩⟩;have e:Q1 z=decide (nT n=z):=by
       unfold Q1;rw[hg,h3,en,decide_eq_true (show 1<=g.length by omega),decide_eq_true (show g.length<=60 by omega)];rfl
      have:=q _ sm;rw[e]at this;have e2:decide (V.str (nT n)=V.str z)=decide (nT n=z):=by
       rw[Bool.eq_iff_iff,decide_eq_true_iff,decide_eq_true_iff];exact⟨λh=>V.str.inj h,λh=>by rw[h]⟩
      rw[←e2]at this;exact this
   ·rw[decide_eq_false h2]
    refine D0 (no ?_ _ (Same.refl _));unfold Q1;rw[hg,decide_eq_false (show ¬g.length<=60 by omega)];simp
  ·refine P0 (decide_eq_false h1) ⟨_,rfl,D0 (no ?_ _ (Same.refl _))⟩
   unfold Q1;rw[hg,decide_eq_false (show ¬1<=g.length by omega)];rfl
end
end K03
namespace K03
open PySem L2 Rg
section
variable{P:Program}{w:World}{K:Frag}{mg:Str->Option Value}{base:Heap}{f:Addr}{fd:FuncData}
abbrev L6(z:Str)(p:Nat):List (Str×V):=[("text",.str z),("place",.int (p:Nat))]
abbrev iH:List Str:=["text","place"]
def But(x:Addr)(H H':Hp):Prop:=∀b,b≠x->H' b=H b
theorem But.refl(x:Addr)(H:Hp):But x H H:=λ_ _=>rfl
theorem But.upd{x:Addr}{H H':Hp}{o:HO}(h:But x H H'):But x H (upd H' x o):=λb hb=>by rw[A9 hb];exact h b hb
def yD(C:Addr):Sp:=λvs H Q _=>∃(x dx:Addr)(z:Str),vs=[.ref x,.str z]/\H x=some (.ins C dx [])/\∀H',But x H H'->H' x=some (.ins C dx (L6 z 0))->Q .non H'
theorem yE:FnScope ["self","text"] ["self","text"] (B4 nK):=by walk_at"sc"
theorem Hr{C:Addr}(F:Fun K "__init__" "Reader.__init__" nK f fd)(c:ClsF K C iH):FnOk P w K mg base B9 1 f fd ["self","text"] (yD C):=by
 refine F.ok yE (by walk_at"ln") (λcdv A outer s H vs Q E hr h=>?_);obtain⟨x,dx,z,rfl,hx,q⟩:=h;have hu:=F6 hr;have nd:=yE.nd;refine F8 (A5 (uM K (qv 0) (qv 1) rfl)
  (A8 (uM K (qv 0) A2 rfl))) ?_
 refine⟨_,rfl,_,rfl,x,C,dx,[],rfl,hx,c.cls,c.no _ (!2),by walk_at"few",?_⟩;refine⟨_,rfl,x,C,dx,_,rfl,A6,c.cls,c.no _ (!2),by walk_at"few",?_⟩;exact q _ (But.refl _ _).upd.upd A6
def bV(C:Addr):Sp:=λvs H Q _=>∃(x dx:Addr)(z y:Str)(p:Nat),vs=[.ref x,.str y]/\H x=some (.ins C dx (L6 z p))/\p<=z.length/\y.length<=100/\
 (y.cps.toList.isPrefixOf (z.cps.toList.drop p)=false->Q (.bl false) H)/\(y.cps.toList.isPrefixOf (z.cps.toList.drop p)=true->∀H',But x H H'->H' x=some (.ins C dx (L6 z (p+y.length)))->Q (.bl true) H')
theorem yF:FnScope ["self","piece"] ["self","piece"] (B4 nL):=by walk_at"sc"
theorem Hs{C:Addr}(F:Fun K "passes" "Reader.passes" nL f fd)(B:Blt mg)(c:ClsF K C iH):FnOk P w K mg base B9 1 f fd ["self","piece"] (bV C):=by
 refine F.ok yF (by walk_at"ln") (λcdv A outer s H vs Q E hr h=>?_);obtain⟨x,dx,z,y,p,rfl,hx,hp,hy,q0,q1⟩:=h;have hu:=F6 hr;have nd:=yF.nd;refine F8 (A5 (C5 (P8 (E2 K (M5 K PySem.F.plainAttrs_str PySem.F.slot_str_startswith PySem.F.type_str_startswith FY (S6 K (qv 0) rfl) (A0 (qv 1) (A0 (S6 K (qv 0) rfl) A1))) (λ_=>rfl))) (A8 (B7 S5)) C7)
  (A5 (uN K (qv 0) (F4 (V1 K) rfl B.len boot_len (A0 (qv 1) A1)) qZ)
  (A8 (B7 S5)))) ?_
 refine⟨_,rfl,x,C,dx,_,_,rfl,hx,c.cls,c.no _ (!2),rfl,rfl,_,rfl,_,rfl,x,C,dx,_,_,rfl,hx,c.cls,c.no _ (!2),rfl,z,y,(p:Nat),rfl,rfl,_,rfl,?_⟩;rw[Ga z y p hp];cases e:y.cps.toList.isPrefixOf (z.cps.toList.drop p)with
 |false=>exact D0 (q0 e)
 |true=>
  refine B5 ⟨_,rfl,x,C,dx,_,_,rfl,hx,c.cls,c.no _ (!2),rfl,_,rfl,dB (N8 (!1)) ⟨_,_,rfl,rfl,?_⟩⟩;exact⟨dx,_,hx,by walk_at"few",q1 e _ (But.refl _ _).upd A6⟩
def oC(sg:Str)(pr:Nat->Bool):Prop:=∀c,c<128->Txt.contains sg ⟨#[c]⟩=pr c
def oE(C:Addr):Sp:=λvs H Q _=>∃(x dx:Addr)(z sg:Str)(p:Nat)(pr:Nat->Bool),vs=[.ref x,.str sg]/\H x=some (.ins C dx (L6 z p))/\p<=z.length/\z.length<=100000/\Asc z/\oC sg pr/\
 ∀H',But x H H'->H' x=some (.ins C dx (L6 z (p+((z.cps.toList.drop p).takeWhile pr).length)))->Q (.str (sL ((z.cps.toList.drop p).takeWhile pr))) H'
theorem Ht{pr:Nat->Bool}{l:List Nat}{k c:Nat}(e:l[k]?=some c)(hk:∀j,j<k->∃d,l[j]?=some d/\pr d=true)(hc:pr c=false):(l.takeWhile pr).length=k:=by
 induction l generalizing k with
 |nil=>simp at e
 |cons a l ih=>
  cases k with
  |zero=>
   have:a=c:=by simpa using e
   rw[List.takeWhile_cons,this,hc];rfl
  |succ k=>
   obtain⟨d,h1,h2⟩:=hk 0 (!1);have:a=d:=by simpa using h1
   rw[List.takeWhile_cons,this,h2,if_pos rfl,length_cons,ih (by simpa using e) λj hj=>by simpa using hk (j+1) (!1)]
theorem Hu{pr:Nat->Bool}{l:List Nat}(hk:∀j,j<l.length->∃d,l[j]?=some d/\pr d=true):(l.takeWhile pr).length=l.length:=by
 induction l with
 |nil=>rfl
 |cons a l ih=>
  obtain⟨d,h1,h2⟩:=hk 0 (!2);have:a=d:=by simpa using h1
  rw[List.takeWhile_cons,this,h2,if_pos rfl,length_cons,length_cons,ih λj hj=>by simpa using hk (j+1) (by simpa using hj)]
theorem yG{pr:Nat->Bool}:∀l:List Nat,l.takeWhile pr=l.take (l.takeWhile pr).length
 |[]=>rfl
 |a::l=>by
  cases h:pr a with
  |false=>rw[List.takeWhile_cons,h];rfl
  |true=>
   have:=yG (pr:=pr) l;rw[List.takeWhile_cons,h,if_pos rfl,length_cons,take_succ_cons,←this]
theorem Hv(z:Str)(a b:Nat)(h:a<=b)(hb:b<=z.length):(Txt.slice z (some ((a:Nat):Int)) (some ((b:Nat):Int))).cps.toList=(z.cps.toList.drop a).take (b-a):=by
 rw[show Txt.slice z (some ((a:Nat):Int)) (some ((b:Nat):Int))=_ from StrLaws.sliceText_nat z h hb]
theorem yH:FnScope ["self","signs","begin"] ["self","signs"] (B4 nM):=by walk_at"sc"
theorem Hw{C:Addr}(F:Fun K "stretch" "Reader.stretch" nM f fd)(B:Blt mg)(c:ClsF K C iH):FnOk P w K mg base B9 1 f fd ["self","signs"] (oE C):=by
 refine F.ok yH (by walk_at"ln") (λcdv A outer s H vs Q E hr h=>?_);obtain⟨x,dx,z,sg,p,pr,rfl,hx,hp,hl,hz,hsg,q⟩:=h;have hu:=F6 hr;have nd:=yH.nd;have hzl:=C2 z;refine F8 (A5 (C8 (i:=2) nd rfl (Or.inl rfl) (S6 K (qv 0) rfl))
  (A5 (cY PassesOwn.never (Z4 (kZ (J1 lF (S6 K (qv 0) rfl) (F4 (V1 K) rfl B.len boot_len (A0 (S6 K (qv 0) rfl) A1)) rfl) (kY (J1 lM (R4 K hu (S6 K (qv 0) rfl) (S6 K (qv 0) rfl) (λ_ _=>rfl)) (qv 1) rfl)))) (A8 (uN K (qv 0) A2 qZ)))
  (A8 (B7 (vG (S6 K (qv 0) rfl) (gD (qv 2)) (gD (S6 K (qv 0) rfl))))))) ?_
 refine⟨_,rfl,x,C,dx,_,_,rfl,hx,c.cls,c.no _ (!2),rfl,?_⟩;refine⟨λm σ H'=>∃k:Nat,σ=[some (.ref x),some (.str sg),some (.int (p:Nat))]/\But x H H'/\H' x=some (.ins C dx (L6 z (p+k)))/\p+k<=z.length/\m=z.length-(p+k)/\∀j,j<k->∃d,(z.cps.toList.drop p)[j]?=some d/\pr d=true,⟨_,0,rfl,But.refl _ _,hx,hp,rfl,λj hj=>absurd hj (not_lt_zero _)⟩,?_⟩;rintro m _ H' ⟨k,rfl,bt,hx',hk,rfl,hpr⟩;have fin:((z.cps.toList.drop p).takeWhile pr).length=k->Q (.str (Txt.slice z (some ((p:Nat):Int)) (some ((p+k:Nat):Int)))) H':=λhlen=>by
  have e:Txt.slice z (some ((p:Nat):Int)) (some ((p+k:Nat):Int))=sL ((z.cps.toList.drop p).takeWhile pr):=by
   refine gQ ?_;rw[bK,yG,hlen,Hv z p (p+k) (!1) hk,add_sub_cancel_left]
  rw[e];exact q H' bt (by rw[hlen];exact hx')
 refine⟨_,rfl,x,C,dx,_,_,rfl,hx',c.cls,c.no _ (!2),rfl,_,rfl,x,C,dx,_,_,rfl,hx',c.cls,c.no _ (!2),rfl,dB (le_of_lt (J7 _ hl)) ⟨_,_,rfl,rfl,_,rfl,?_⟩⟩;by_cases hlt:p+k<z.length
 ·obtain⟨ch,hch⟩:∃ch,z.cps.toList[p+k]?=some ch:=⟨_,getElem?_eq_getElem (!1)⟩
  have hch':(z.cps.toList.drop p)[k]?=some ch:=by rw[List.getElem?_drop];exact hch
  have hasc:ch<128:=hz.at (show z.cps[p+k]?=some ch by rw[←hch];simp);refine M8 (decide_eq_true (!1)) ⟨_,rfl,x,C,dx,_,_,rfl,hx',c.cls,c.no _ (!2),rfl,_,rfl,x,C,dx,_,_,rfl,hx',c.cls,c.no _ (!2),rfl,kN (le_of_lt (J7 _ hl)) (cI hch) ⟨_,rfl,_,_,rfl,rfl,_,rfl,?_⟩⟩;rw[hsg ch hasc];cases hpc:pr ch with
  |false=>exact B5 ⟨_,rfl,x,C,dx,_,_,rfl,hx',c.cls,c.no _ (!2),rfl,_,rfl,_,rfl,_,rfl,x,C,dx,_,_,rfl,hx',c.cls,c.no _ (!2),rfl,_,rfl,z,rfl,le_of_lt (J7 _ hl),fin (Ht hch' hpr hpc)⟩
  |true=>
   refine D0 ⟨fun σ H2=>∃m',m'<z.length-(p+k)/\∃k:Nat,σ=[some (.ref x),some (.str sg),some (.int (p:Nat))]/\But x H H2/\H2 x=some (.ins C dx (L6 z (p+k)))/\p+k<=z.length/\m'=z.length-(p+k)/\∀j,j<k->∃d,(z.cps.toList.drop p)[j]?=some d/\pr d=true,λ_ _ z=>z,?_⟩;refine⟨_,rfl,x,C,dx,_,_,rfl,hx',c.cls,c.no _ (!2),rfl,⟨_,_,rfl,rfl,dx,_,hx',by walk_at"few",?_⟩⟩;refine⟨_,?_,k+1,rfl,bt.upd,A6,!1,rfl,λj hj=>?_⟩
   ·omega
   ·rcases lt_or_ge j k with h|h
    ·exact hpr j h
    ·have:j=k:=by omega
     rw[this];exact⟨ch,hch',hpc⟩
 ·refine P0 (decide_eq_false (!1)) (B5 ⟨_,rfl,x,C,dx,_,_,rfl,hx',c.cls,c.no _ (!2),rfl,_,rfl,_,rfl,_,rfl,x,C,dx,_,_,rfl,hx',c.cls,c.no _ (!2),rfl,_,rfl,z,rfl,le_of_lt (J7 _ hl),fin ?_⟩)
  rw[Hu,length_drop]
  ·omega
  ·intro j hj
   rw[length_drop]at hj;exact hpr j (!1)
def yI(C:Addr):Sp:=λvs H Q _=>∃(x dx:Addr)(z:Str)(p:Nat),vs=[.ref x]/\H x=some (.ins C dx (L6 z p))/\z.length<=100000/\Q (.bl (decide (p=z.length))) H
theorem yJ:FnScope ["self"] ["self"] (B4 nO):=by walk_at"sc"
theorem Hx{C:Addr}(F:Fun K "ended" "Reader.ended" nO f fd)(B:Blt mg)(c:ClsF K C iH):FnOk P w K mg base B9 1 f fd ["self"] (yI C):=by
 refine F.ok yJ (by walk_at"ln") (λcdv A outer s H vs Q E hr h=>?_);obtain⟨x,dx,z,p,rfl,hx,hl,q⟩:=h;have hu:=F6 hr;have nd:=yJ.nd;refine F8 (A8 (B7 (aY O2 (S6 K (qv 0) rfl) (F4 (V1 K) rfl B.len boot_len (A0 (S6 K (qv 0) rfl) A1)) rfl))) ?_;refine⟨_,rfl,x,C,dx,_,_,rfl,hx,c.cls,c.no _ (!2),rfl,_,rfl,x,C,dx,_,_,rfl,hx,c.cls,c.no _ (!2),rfl,dB (le_of_lt (J7 _ hl)) ⟨rfl,?_⟩⟩;have e:decide (V.int (p:Nat)=V.int (z.length:Nat))=decide (p=z.length):=by
  rw[Bool.eq_iff_iff,decide_eq_true_iff,decide_eq_true_iff];exact⟨λh=>by have:=V.int.inj h;omega,λh=>by rw[h]⟩
 rw[e];exact q
end
end K03
namespace K03
open PySem L2 Rg
section
variable{P:Program}{w:World}{K:Frag}{mg:Str->Option Value}{base:Heap}{f:Addr}{fd:FuncData}
def dY(C CB:Addr):Sp:=λvs H Q E=>∃(x dx:Addr)(z y:Str)(p:Nat),vs=[.ref x,.str y]/\H x=some (.ins C dx (L6 z p))/\p<=z.length/\y.length<=100/\
 (y.cps.toList.isPrefixOf (z.cps.toList.drop p)=false->E (.ref CB) none H)/\(y.cps.toList.isPrefixOf (z.cps.toList.drop p)=true->∀H',But x H H'->H' x=some (.ins C dx (L6 z (p+y.length)))->Q .non H')
theorem yK:FnScope ["reader","piece"] ["reader","piece"] (B4 nU):=by walk_at"sc"
theorem Hy{C CB G:Addr}(F:Fun K "must_pass" "must_pass" nU f fd)(B:Blt mg)(h_BadThing:HasN P w K mg base "BadThing" CB G)(h_Reader_passes:P9 P w K mg base C "passes" 1 ["self","piece"] (bV C)):FnOk P w K mg base (F9 P w) 2 f fd ["reader","piece"] (dY C CB):=by
 refine Fun.okx F yK (by walk_at"ln") (λcdv A outer s H vs Q E hr h=>?_);obtain⟨x,dx,z,y,p,rfl,hx,hp,hy,q0,q1⟩:=h;have hu:=F6 hr;have nd:=yK.nd;refine F8 (A8 (C5 (P8 (E2 K (V2 h_Reader_passes hr (!3) (qv 0) (A0 (qv 1) A1)) (λ_=>rfl))) (A8 (X1 h_BadThing hr rfl (A0 D1 A1))) C7)) ?_;refine⟨_,rfl,x,dx,_,rfl,hx,rfl,_,rfl,x,dx,z,y,p,rfl,hx,hp,hy,λe=>⟨_,rfl,?_⟩,λe H' b hx'=>⟨_,rfl,?_⟩⟩
 ·exact D0 ⟨!3,q0 e⟩
 ·exact B5 (q1 e H' b hx')
theorem Hz:oC ("abcdefghijklmnopqrstuvwxyz"++"0123456789"++"-") E9:=by
 have:∀c<128,Txt.contains ("abcdefghijklmnopqrstuvwxyz"++"0123456789"++"-") ⟨#[c]⟩=E9 c:=by decide +kernel
 exact this
theorem HA:oC "abcdefghijklmnopqrstuvwxyz" J2:=by
 have:∀c<128,Txt.contains "abcdefghijklmnopqrstuvwxyz" ⟨#[c]⟩=J2 c:=by decide +kernel
 exact this
theorem yL{z:Str}(hz:Asc z){w:List Nat}(h:∀c∈w,c∈z.cps.toList):Asc (sL w):=dX.mpr λc hc=>dX.mp hz c (h c hc)
theorem yM{pr:Nat->Bool}(l:List Nat)(p:Nat):l.drop (p+((l.drop p).takeWhile pr).length)=(l.drop p).dropWhile pr:=by
 rw[←drop_drop];generalize l.drop p=m
 induction m with
 |nil=>rfl
 |cons a m ih=>
  cases h:pr a with
  |false=>rw[List.takeWhile_cons,List.dropWhile_cons,h];rfl
  |true=>rw[List.takeWhile_cons,List.dropWhile_cons,h,if_pos rfl,if_pos rfl,length_cons,List.drop_succ_cons,ih]
theorem yN{pr:Nat->Bool}(z:Str){p:Nat}(hp:p<=z.length):p+((z.cps.toList.drop p).takeWhile pr).length<=z.length:=by
 have h1:((z.cps.toList.drop p).takeWhile pr).length<=(z.cps.toList.drop p).length:=(List.takeWhile_sublist pr).length_le;rw[length_drop,←C2]at h1;omega
def oF(C CB:Addr):Sp:=λvs H Q E=>∃(x dx:Addr)(z:Str)(p:Nat),vs=[.ref x]/\H x=some (.ins C dx (L6 z p))/\p<=z.length/\z.length<=100000/\Asc z/\
 (U0 (z.cps.toList.drop p)=none->∀H',Same (E8 H x) H'->E (.ref CB) none H')/\
 (∀t r,U0 (z.cps.toList.drop p)=some (t,r)->∀(v:V)(p':Nat) H',Same (E8 H x) H'->H' x=some (.ins C dx (L6 z p'))->p'<=z.length->z.cps.toList.drop p'=r->(∀G:Hp,Rep G t v)->Q v H')
theorem But.sm{x:Addr}{H H':Hp}(h:But x H H'):Same (E8 H x) H':=λb o e=>by
 have hb:b≠x:=λz=>by rw[z,X0]at e;cases e
 rw[K2 hb]at e;rw[h b hb,e]
theorem HB{x:Addr}{H H':Hp}(h:Same H H'):Same (E8 H x) H':=λb o e=>by
 have hb:b≠x:=λz=>by rw[z,X0]at e;cases e
 rw[K2 hb]at e;exact h b o e
theorem yO:FnScope ["reader","text"] ["reader"] (B4 nR):=by walk_at"sc"
theorem HC{C CB G0:Addr}(F:Fun K "read_atom" "read_atom" nR f fd)(B:Blt mg)(G:Glo mg)(h_BadThing:HasN P w K mg base "BadThing" CB G0)(h_Reader_stretch:P9 P w K mg base C "stretch" 1 ["self","signs"] (oE C))(h_is_name:C4 P w K mg base "is_name" 1 ["text"] oB)(h_is_number:C4 P w K mg base "is_number" 1 ["text"] yB):FnOk P w K mg base (F9 P w) 2 f fd ["reader"] (oF C CB):=by
 refine Fun.okx F yO (by walk_at"ln") (λcdv A outer s H vs Q E hr h=>?_);obtain⟨x,dx,z,p,rfl,hx,hp,hl,hz,q0,q1⟩:=h;have hu:=F6 hr;have nd:=yO.nd;refine F8 (A5 (C8 (i:=1) nd rfl (Or.inl rfl) (V2 h_Reader_stretch hr (!3) (qv 0) (A0 (A3 (E3 K) (A3 (E3 K) (cZ rfl G.LETTERS) (cZ rfl G.FIGURES)) D1) A1)))
  (A5 (C5 (E2 K (C1 h_is_name hr (!3) rfl (A0 (qv 1) A1)) (λ_=>rfl)) (A8 (B7 (qv 1))) C7)
  (A5 (C5 (E2 K (C1 h_is_number hr (!3) rfl (A0 (qv 1) A1)) (λ_=>rfl)) (A8 (B7 (Z5 lO rfl B.int boot_int (A0 (qv 1) A1)))) C7)
  (A8 (X1 h_BadThing hr rfl (A0 D1 A1)))))) ?_
 refine⟨_,rfl,x,dx,_,rfl,hx,rfl,S0 (!0) (S0 (!0) ⟨x,dx,z,_,p,E9,rfl,hx,hp,hl,hz,Hz,λH1 b1 hx1=>?_⟩)⟩;have hdl:=yM (pr:=E9) z.cps.toList p;have hpl:=yN (pr:=E9) z hp;unfold U0 at q0 q1;generalize hw:(z.cps.toList.drop p).takeWhile E9=w0 at *;generalize p+w0.length=p1 at *;have hwz:∀c∈w0,c∈z.cps.toList:=λc hc=>List.mem_of_mem_drop ((List.takeWhile_sublist E9).mem (hw ▸ hc))
 have ha:Asc (sL w0):=yL hz hwz;have hwl:(sL w0).length<=100000:=by
  rw[C2,bK,←hw];have h1:((z.cps.toList.drop p).takeWhile E9).length<=(z.cps.toList.drop p).length:=(List.takeWhile_sublist E9).length_le;rw[length_drop,←C2]at h1;omega
 refine⟨_,rfl,_,rfl,ha,hwl,λH2 s2=>⟨_,rfl,?_⟩⟩;have S2:Same (E8 H x) H2:=b1.sm.trans s2;have en:Q7 (sL w0)=D7 (sL w0):=rfl;rw[en];cases h1:D7 (sL w0)with
 |true=>
  refine D0 ⟨_,rfl,q1 (.word (sL w0)) _ ?_ _ p1 H2 S2 (s2 _ _ hx1) hpl hdl λ_=>rfl⟩;rw[if_pos h1]
 |false=>
  refine B5 ⟨_,rfl,_,rfl,ha,hwl,λH3 s3=>⟨_,rfl,?_⟩⟩;cases h2:Q1 (sL w0)with
  |true=>
   obtain⟨n,hn,hz',hi⟩:=vI h2;refine D0 ⟨_,rfl,.inr ⟨_,n,rfl,hi,?_,q1 (.num n) _ ?_ _ p1 H3 (S2.trans s3) (s3 _ _ (s2 _ _ hx1)) hpl hdl λ_=>rfl⟩⟩
   ·rw[hz']
    have:=(gP hn).2.1;omega
   ·rw[if_neg (by rw[h1];simp),if_pos h2,hi]
    rfl
  |false=>
   refine B5 ⟨!3,q0 ?_ H3 (S2.trans s3)⟩;rw[if_neg (by rw[h1];simp),if_neg (by rw[h2];simp)]
theorem P4{a:Nat}{s:List Nat}:([a].isPrefixOf s=true->K5 a s=some (s.drop 1))/\([a].isPrefixOf s=false->K5 a s=none):=by
 cases s with
 |nil=>exact⟨λh=>(by cases h),λ_=>rfl⟩
 |cons c r=>
  rw[dF,show[a].isPrefixOf (c::r)=(a==c&&([]:List Nat).isPrefixOf r)from rfl,List.isPrefixOf_nil_left,Bool.and_true];by_cases e:c=a
  ·rw[if_pos e,e]
   exact⟨λ_=>rfl,λh=>by simp at h⟩
  ·rw[if_neg e]
   exact⟨λh=>absurd (beq_iff_eq.mp h).symm e,λ_=>rfl⟩
theorem aB{a b:Nat}{s:List Nat}:([a,b].isPrefixOf s=true->N0 a b s=some (s.drop 2))/\([a,b].isPrefixOf s=false->N0 a b s=none):=by
 cases s with
 |nil=>exact⟨λh=>(by cases h),λ_=>rfl⟩
 |cons c r=>
  rw[show[a,b].isPrefixOf (c::r)=(a==c&&[b].isPrefixOf r)from rfl];unfold N0;rw[dF];by_cases e:c=a
  ·rw[if_pos e,e,beq_self_eq_true,Bool.true_and]
   exact⟨λh=>P4.1 h,λh=>P4.2 h⟩
  ·rw[if_neg e,beq_eq_false_iff_ne.mpr (Ne.symm e)]
   exact⟨λh=>(by cases h),λ_=>rfl⟩
def oG(C CB:Addr):Sp:=λvs H Q E=>∃(x dx:Addr)(z last:Str)(p:Nat),vs=[.ref x,.str last]/\H x=some (.ins C dx (L6 z p))/\p<=z.length/\z.length<=100000/\Asc z/\last.length<=100/\
 (P3 last (z.cps.toList.drop p)=none->∀H',Same (E8 H x) H'->E (.ref CB) none H')/\
 (∀k r,P3 last (z.cps.toList.drop p)=some (k,r)->∀(p':Nat) H',Same (E8 H x) H'->H' x=some (.ins C dx (L6 z p'))->p'<=z.length->z.cps.toList.drop p'=r->Q (.str k) H')
theorem yP:FnScope ["reader","last","field"] ["reader","last"] (B4 nS):=by walk_at"sc"
theorem HD{C CB G0:Addr}(F:Fun K "read_field" "read_field" nS f fd)(B:Blt mg)(G:Glo mg)(h_BadThing:HasN P w K mg base "BadThing" CB G0)(h_Reader_stretch:P9 P w K mg base C "stretch" 1 ["self","signs"] (oE C))(h_is_name:C4 P w K mg base "is_name" 1 ["text"] oB)(h_word_key:C4 P w K mg base "word_key" 1 ["word"] W3)(h_must_pass:M9 P w K mg base "must_pass" 2 ["reader","piece"] (dY C CB)):FnOk P w K mg base (F9 P w) 3 f fd ["reader","last"] (oG C CB):=by
 refine Fun.okx F yP (by walk_at"ln") (λcdv A outer s H vs Q E hr h=>?_);obtain⟨x,dx,z,last,p,rfl,hx,hp,hl,hz,hlast,q0,q1⟩:=h;have hu:=F6 hr;have nd:=yP.nd;refine F8 (A5 (C8 (i:=2) nd rfl (Or.inl rfl) (V2 h_Reader_stretch hr (!3) (qv 0) (A0 (cZ rfl G.LETTERS) A1)))
  (A5 (C5 (P8 (E2 K (C1 h_is_name hr (!3) rfl (A0 (qv 2) A1)) (λ_=>rfl))) (A8 (X1 h_BadThing hr rfl (A0 D1 A1))) C7)
  (A5 (C5 (J1 (Gi hr) (C1 h_word_key hr (!3) rfl (A0 (qv 2) A1)) (C1 h_word_key hr (!3) rfl (A0 (qv 1) A1)) rfl) (A8 (X1 h_BadThing hr rfl (A0 D1 A1))) C7)
  (A5 (O1 (Q4 h_must_pass Q2 hr (!3) rfl (A0 (qv 0) (A0 D1 A1))))
  (A8 (B7 (qv 2))))))) ?_
 refine⟨_,rfl,x,dx,_,rfl,hx,rfl,x,dx,z,_,p,J2,rfl,hx,hp,hl,hz,HA,λH1 b1 hx1=>?_⟩;have hdl:=yM (pr:=J2) z.cps.toList p;have hpl:=yN (pr:=J2) z hp;unfold P3 at q0 q1;generalize hw:(z.cps.toList.drop p).takeWhile J2=w0 at *;generalize p+w0.length=p1 at *;have hwz:∀c∈w0,c∈z.cps.toList:=λc hc=>List.mem_of_mem_drop ((List.takeWhile_sublist J2).mem (hw ▸ hc))
 have ha:Asc (sL w0):=yL hz hwz;have hwl:(sL w0).length<=100000:=by
  rw[C2,bK,←hw];have h1:((z.cps.toList.drop p).takeWhile J2).length<=(z.cps.toList.drop p).length:=(List.takeWhile_sublist J2).length_le;rw[length_drop,←C2]at h1;omega
 refine⟨_,rfl,_,rfl,ha,hwl,λH2 s2=>⟨_,rfl,?_⟩⟩;have S2:Same (E8 H x) H2:=b1.sm.trans s2;have en:Q7 (sL w0)=D7 (sL w0):=rfl;rw[en];cases h1:D7 (sL w0)with
 |false=>
  refine D0 ⟨!3,q0 ?_ H2 S2⟩;rw[if_neg (by rw[h1];simp)]
 |true=>
  have h8:(sL w0).length<=1000:=by
   unfold D7 at h1;simp only[Bool.and_eq_true,decide_eq_true_eq]at h1;omega
  refine B5 ⟨_,rfl,_,rfl,h8,λa1 n1=>⟨_,rfl,_,rfl,!1,λa2 n2=>⟨a1,a2,sL w0,last,rfl,rfl,J6 (Ne.symm (nx n2)) A6,A6,_,rfl,?_⟩⟩⟩;have S4:=S2.trans ((C3 n1 (.tup (L7 (sL w0)))).trans (C3 n2 (.tup (L7 last))));have hx4:=C3 n2 (.tup (L7 last)) _ _ (C3 n1 (.tup (L7 (sL w0))) _ _ (s2 _ _ hx1));generalize upd (upd H2 a1 (.tup (L7 (sL w0)))) a2 (.tup (L7 last))=H4 at S4 hx4 ⊢;cases h2:B1 last (sL w0)with
  |false=>
   refine D0 ⟨!3,q0 ?_ H4 S4⟩;rw[if_neg (by rw[h2];simp)]
  |true=>
   have hc:D7 (sL w0)=true/\B1 last (sL w0)=true:=⟨h1,h2⟩;refine B5 ⟨_,rfl,x,dx,z,": ",p1,rfl,hx4,hpl,!0,λe=>q0 ?_ H4 S4,λe H5 b5 hx5=>⟨_,rfl,q1 (sL w0) (((z.cps.toList.drop p).dropWhile J2).drop 2) ?_ (p1+2) H5 (λb o e'=>?_) hx5 ?_ ?_⟩⟩
   ·rw[if_pos hc]
    have e2:=aB.2 (show[58,32].isPrefixOf (z.cps.toList.drop p1)=false from e);rw[←hdl,e2];rfl
   ·rw[if_pos hc]
    have e2:=aB.1 (show[58,32].isPrefixOf (z.cps.toList.drop p1)=true from e);rw[←hdl,e2];rfl
   ·have hb:b≠x:=λz=>by rw[z,X0]at e';cases e'
    rw[b5 b hb];exact S4 b o e'
   ·have e2:=gR (aB.1 (show[58,32].isPrefixOf (z.cps.toList.drop p1)=true from e))
    have:=congrArg length e2;rw[length_drop,←C2,length_cons,length_cons]at this;omega
   ·rw[←drop_drop,hdl]
end
end K03
namespace K03
open PySem L2 Rg
section
variable{P:Program}{w:World}{K:Frag}{mg:Str->Option Value}{base:Heap}{f:Addr}{fd:FuncData}
structure RdAt(C x dx:Addr)(z:Str)(p:Nat)(H:Hp):Prop where
 at_:H x=some (.ins C dx (L6 z p))
 pl:p<=z.length
 ln:z.length<=100000
 asc:Asc z
def T2(C CB:Addr)(l:Int)(rd:List Nat->Option (Th×List Nat)):Sp:=λvs H Q E=>∃(x dx:Addr)(z:Str)(p:Nat),vs=[.ref x,.int l]/\RdAt C x dx z p H/\
 (rd (z.cps.toList.drop p)=none->∀H',Same (E8 H x) H'->E (.ref CB) none H')/\
 (∀t r,rd (z.cps.toList.drop p)=some (t,r)->∀(v:V)(p':Nat) H',Same (E8 H x) H'->RdAt C x dx z p' H'->z.cps.toList.drop p'=r->Rep (C6 H H') t v->Q v H')
theorem G9{x:Addr}{H H' H'':Hp}(h:Same (E8 H x) H')(h':Same (E8 H' x) H''):Same (E8 H x) H'':=λb o e=>by
 have hb:b≠x:=λz=>by rw[z,X0]at e;cases e
 have:=h b o e;exact h' b o (by rw[K2 hb];exact this)
theorem yQ{x l:Addr}{H:Hp}(hl:H l=none){o:HO}:Same (E8 H x) (upd H l o):=λb u e=>by
 have hb:b≠x:=λz=>by rw[z,X0]at e;cases e
 rw[K2 hb]at e;rw[A9 (E6 e hl)];exact e
theorem iI{x l:Addr}{H H':Hp}(hl:H l=none)(h:Same (E8 H x) H'){o:HO}:Same (E8 H x) (upd H' l o):=λb u e=>by
 have hb:b≠x:=λz=>by rw[z,X0]at e;cases e
 have e2:=e;rw[K2 hb]at e2;rw[A9 (E6 e2 hl)];exact h b u e
theorem U3{x:Addr}{H H':Hp}(h:Same (E8 H x) H'){o:HO}(hx:H' x=some o):Dom H H':=λb hb=>by
 by_cases e:b=x
 ·rw[e,hx];simp
 ·cases q:H b with
  |none=>exact absurd q hb
  |some u=>
   rw[h b u (by rw[K2 e];exact q)];simp
theorem aC{G H H':Hp}{x:Addr}(hx:G x≠none)(h:Same (E8 H x) H'):Same (C6 G H) (C6 G H'):=λb o e=>by
 obtain⟨e1,e2⟩:=bD e;have hb:b≠x:=λz=>hx (by rw[←z];exact e1)
 exact O4 e1 (h b o (by rw[K2 hb];exact e2))
theorem RdAt.but{C x dx:Addr}{z:Str}{p p':Nat}{H H':Hp}(r:RdAt C x dx z p H)(h:H' x=some (.ins C dx (L6 z p')))(hp:p'<=z.length):RdAt C x dx z p' H':=⟨h,hp,r.ln,r.asc⟩
theorem HE{ys s:List Nat}(h:ys.isPrefixOf s=true):ys.length<=s.length:=(List.isPrefixOf_iff_prefix.mp h).length_le
theorem RdAt.on{C x dx:Addr}{z y:Str}{p:Nat}{H H':Hp}(r:RdAt C x dx z p H)(h:H' x=some (.ins C dx (L6 z (p+y.length))))(e:y.cps.toList.isPrefixOf (z.cps.toList.drop p)=true):RdAt C x dx z (p+y.length) H':=by
 refine r.but h ?_;have:=HE e;rw[length_drop,←C2,←C2]at this;have:=r.pl;omega
theorem HF{rd:List Nat->Option (Th×List Nat)}{n:Nat}{s r:List Nat}(h:N0 44 32 s=some r):M0 rd (n+1) s=(rd r).bind λp=>(M0 rd n p.2).map λq=>(.cons Str.empty p.1 q.1,q.2):=by rw[M0,h]
theorem HG{rd:List Nat->Option (Th×List Nat)}{n:Nat}{s:List Nat}(h:N0 44 32 s=none):M0 rd (n+1) s=(K5 93 s).map λr=>(.nil,r):=by rw[M0,h]
theorem HH{rd:List Nat->Option (Th×List Nat)}{n:Nat}{last:Str}{s r:List Nat}(h:N0 44 32 s=some r):K6 rd (n+1) last s=(P3 last r).bind λf=>(rd f.2).bind λp=>(K6 rd n f.1 p.2).map λq=>(.cons f.1 p.1 q.1,q.2):=by rw[K6,h]
theorem HI{rd:List Nat->Option (Th×List Nat)}{n:Nat}{last:Str}{s:List Nat}(h:N0 44 32 s=none):K6 rd (n+1) last s=(K5 125 s).map λr=>(.nil,r):=by rw[K6,h]
theorem iJ{d:Nat}{s r:List Nat}{t:Th}(h:B3 d s=some (t,r)):r.length+1<=s.length:=by
 obtain⟨e,hw,_⟩:=lZ d s t r h;obtain⟨c,q,e2,_⟩:=dJ hw;rw[e,e2,length_append,length_cons];omega
theorem N2{z:Str}{p:Nat}(h:p<=z.length):(z.cps.toList.drop p).length=z.length-p:=by rw[length_drop,←C2]
theorem yR:FnScope ["reader","level","row"] ["reader","level"] (B4 iE):=by walk_at"sc"
theorem HJ{C CB G0:Addr}{d:Nat}(hd:d<=20)(F:Fun K "read_row" "read_row" iE f fd)(B:Blt mg)(h_BadThing:HasN P w K mg base "BadThing" CB G0)(h_Reader_passes:P9 P w K mg base C "passes" 1 ["self","piece"] (bV C))(h_must_pass:M9 P w K mg base "must_pass" 2 ["reader","piece"] (dY C CB))(h_read_thing:M9 P w K mg base "read_thing" (2*d+6) ["reader","level"] (T2 C CB (21-(d:Nat)) (B3 d))):FnOk P w K mg base (F9 P w) (2*d+7) f fd ["reader","level"] (T2 C CB (20-(d:Nat)) (Q5 (B3 d))):=by
 refine Fun.okx F yR (by walk_at"ln") (λcdv A outer s H vs Q E hr h=>?_);obtain⟨x,dx,z,p,rfl,rd,q0,q1⟩:=h;have hu:=F6 hr;have nd:=yR.nd;refine F8 (A5 (C8 (i:=2) nd rfl (Or.inl rfl) (O0 A1))
  (A5 (C5 (E2 K (V2 h_Reader_passes hr (!1) (qv 0) (A0 D1 A1)) (λ_=>rfl)) (A8 (B7 (qv 2))) C7)
  (A5 (O1 (M5 K PySem.F.plainAttrs_list PySem.F.slot_list_append PySem.F.type_list_append T9 (qv 2) (A0 (Q4 h_read_thing Q2 hr (!1) rfl (A0 (qv 0) (A0 (A3 (E3 K) (qv 1) A2) A1))) A1)))
  (A5 (cY vL (E2 K (V2 h_Reader_passes hr (!1) (qv 0) (A0 D1 A1)) (λ_=>rfl)) (A8 (O1 (M5 K PySem.F.plainAttrs_list PySem.F.slot_list_append PySem.F.type_list_append T9 (qv 2) (A0 (Q4 h_read_thing Q2 hr (!1) rfl (A0 (qv 0) (A0 (A3 (E3 K) (qv 1) A2) A1))) A1)))))
  (A5 (O1 (Q4 h_must_pass Q2 hr (!1) rfl (A0 (qv 0) (A0 D1 A1))))
  (A8 (B7 (qv 2)))))))) ?_
 have elev:[V.ref x,V.int (20-(d:Int)+1)]=[V.ref x,V.int (21-(d:Int))]:=by rw[show(20:Int)-d+1=21-d by omega]
 refine⟨zero_le _,λl hl=>?_⟩;have hxl:x≠l:=E6 rd.at_ hl;have S01:Same (E8 H x) (upd H l (.lst [])):=yQ hl;have hx1:upd H l (.lst []) x=some (.ins C dx (L6 z p)):=J6 hxl rd.at_;have hl1:upd H l (.lst []) l=some (.lst []):=A6;have D01:Dom H (upd H l (.lst [])):=U3 S01 hx1;generalize upd H l (.lst [])=H1 at S01 hx1 hl1 D01 ⊢;have gx:H1 x≠none:=by rw[hx1];simp
 have gl:H1 l≠none:=by rw[hl1];simp
 refine⟨_,rfl,x,dx,_,rfl,hx1,rfl,x,dx,z,"]",p,rfl,hx1,rd.pl,!0,λe=>⟨_,rfl,B5 ?_⟩,λe H2 b2 hx2=>⟨_,rfl,D0 ⟨_,rfl,?_⟩⟩⟩
 ·have e1:=P4.2 (show[93].isPrefixOf (z.cps.toList.drop p)=false from e)
  have er:∀o,B3 d (z.cps.toList.drop p)=o->Q5 (B3 d) (z.cps.toList.drop p)=o.bind λp=>(M0 (B3 d) (p.2.length+1) p.2).map λq=>(.row (.cons Str.empty p.1 q.1),q.2):=λo ho=>by
   unfold Q5;rw[e1,ho]
  refine⟨_,rfl,.inl ⟨rfl,_,SqL.of hl1⟩,_,rfl,_,rfl,L0 ⟨x,dx,z,p,elev,⟨hx1,rd.pl,rd.ln,rd.asc⟩,λh0 H2 s2=>q0 (by rw[er _ h0];rfl) H2 (G9 S01 s2),λt1 r1 h1 v1 p2 H2 s2 rd2 hr2 rep2=>?_⟩⟩;have hl2:H2 l=some (.lst []):=s2 _ _ (by rw[K2 (Ne.symm hxl)];exact hl1);have hle:=iJ h1;rw[←hr2,N2 rd2.pl,N2 rd.pl]at hle;have hlp:=rd.pl;have hlp2:=rd2.pl;have hln:=rd.ln;have D2:Dom H1 H2:=U3 s2 rd2.at_;refine⟨l,_,_,rfl,rfl,hl2,by show 0<sizeLine;decide,?_⟩;refine⟨λm σ H'=>∃(p' n:Nat)(ys:List V)(acc:Ts),σ=[some (.ref x),some (.int (20-(d:Int))),some (.ref l)]/\Same (E8 H x) H'/\RdAt C x dx z p' H'/\H' l=some (.lst ys)/\RepR (C6 H1 H') acc ys/\Dom H1 H'/\ys.length<=p'/\m=z.length-p'/\(z.cps.toList.drop p').length<n/\
    Q5 (B3 d) (z.cps.toList.drop p)=(M0 (B3 d) n (z.cps.toList.drop p')).map λq=>(.row (acc.app q.1),q.2),
   ⟨_,p2,r1.length+1,[v1],.cons Str.empty t1 .nil,rfl,iI hl (G9 S01 s2),rd2.but (J6 hxl rd2.at_) rd2.pl,A6,?_,D2.upd,by show 1<=p2;omega,rfl,by rw[hr2];omega,?_⟩,?_⟩
  ·rw[W9 gl]
   exact⟨v1,[],rfl,rep2,rfl⟩
  ·rw[er _ h1,hr2]
   rfl
  rintro m _ H' ⟨p',n,ys,acc,rfl,sm,rd',hl',rep,D',hyl,rfl,hn,her⟩;have hlp':=rd'.pl;obtain⟨n,rfl⟩:∃k,n=k+1:=⟨n-1,!1⟩
  refine⟨_,rfl,x,dx,_,rfl,rd'.at_,rfl,x,dx,z,", ",p',rfl,rd'.at_,rd'.pl,!0,λe=>⟨_,rfl,B5 ?_⟩,λe H3 b3 hx3=>⟨_,rfl,D0 ?_⟩⟩
  ·have e2:=aB.2 (show[44,32].isPrefixOf (z.cps.toList.drop p')=false from e)
   rw[HG e2]at her;refine⟨_,rfl,x,dx,z,"]",p',rfl,rd'.at_,rd'.pl,!0,λe3=>?_,λe3 H3 b3 hx3=>⟨_,rfl,?_⟩⟩
   ·have e4:=P4.2 (show[93].isPrefixOf (z.cps.toList.drop p')=false from e3)
    rw[e4]at her;exact q0 her _ sm
   ·have e4:=P4.1 (show[93].isPrefixOf (z.cps.toList.drop p')=true from e3)
    rw[e4]at her;refine q1 _ _ her _ _ H3 (G9 sm b3.sm) (rd'.on (y:="]") hx3 e3) (by rw[drop_drop];rfl) ?_;show Rep (C6 H H3) (.row (acc.app .nil)) (.ref l);rw[Ts.app_nil];have hl3:H3 l=some (.lst ys):=by rw[b3 l (Ne.symm hxl)];exact hl'
    exact⟨l,ys,rfl,O4 hl hl3,(rep.mono (aC gx b3.sm)).mono (O5 D01)⟩
  ·have e2:=aB.1 (show[44,32].isPrefixOf (z.cps.toList.drop p')=true from e)
   rw[HF e2,drop_drop]at her;have rd3:=rd'.on (y:=", ") hx3 e;have hp3:p'+(", " : Str).length=p'+2:=rfl;rw[hp3]at rd3;have hl3:H3 l=some (.lst ys):=by rw[b3 l (Ne.symm hxl)];exact hl'
   have s3:=G9 sm b3.sm;refine⟨fun σ H2=>∃m',m'<z.length-p'/\∃(p' n:Nat)(ys:List V)(acc:Ts),σ=[some (.ref x),some (.int (20-(d:Int))),some (.ref l)]/\Same (E8 H x) H2/\RdAt C x dx z p' H2/\H2 l=some (.lst ys)/\RepR (C6 H1 H2) acc ys/\Dom H1 H2/\ys.length<=p'/\m'=z.length-p'/\(z.cps.toList.drop p').length<n/\
    Q5 (B3 d) (z.cps.toList.drop p)=(M0 (B3 d) n (z.cps.toList.drop p')).map λq=>(.row (acc.app q.1),q.2),λ_ _ z=>z,?_⟩
   refine⟨_,rfl,.inl ⟨rfl,_,SqL.of hl3⟩,_,rfl,_,rfl,L0 ⟨x,dx,z,p'+2,elev,rd3,λh0 H4 s4=>q0 (by rw[her,h0];rfl) H4 (G9 s3 s4),λt4 r4 h4 v4 p4 H4 s4 rd4 hr4 rep4=>?_⟩⟩;rw[h4]at her;have hl4:H4 l=some (.lst ys):=s4 _ _ (by rw[K2 (Ne.symm hxl)];exact hl3);have hle4:=iJ h4;rw[←hr4,N2 rd4.pl,N2 rd3.pl]at hle4;have h3p:=rd3.pl;have h4p:=rd4.pl;have D3:Dom H1 H3:=λb hb=>by
    by_cases eb:b=x
    ·rw[eb,hx3];simp
    ·rw[b3 b eb];exact D' b hb
   have D4:Dom H3 H4:=U3 s4 rd4.at_;rw[N2 rd'.pl]at hn;refine⟨l,_,_,rfl,rfl,hl4,lt_of_le_of_lt (show ys.length<=100000 by omega) (!3),_,?_,p4,n,ys++[v4],acc.snoc Str.empty t4,rfl,iI hl (G9 s3 s4),rd4.but (J6 hxl rd4.at_) rd4.pl,A6,?_,(D3.trans D4).upd,by rw[length_append];show ys.length+1<=p4;omega,rfl,by rw[N2 rd4.pl];omega,?_⟩
   ·omega
   ·rw[W9 gl]
    exact RepR.snoc (rep4.mono (O5 D3)) ((rep.mono (aC gx b3.sm)).mono (aC gx s4))
   ·rw[her,←hr4]
    show((M0 (B3 d) n (z.cps.toList.drop p4)).map _).map _=_;rw[Option.map_map]
    congr 1
    funext q
    show _=(Th.row ((acc.snoc Str.empty t4).app q.1),q.2);rw[Ts.snoc_app];rfl
 ·have e1:=P4.1 (show[93].isPrefixOf (z.cps.toList.drop p)=true from e)
  have er:Q5 (B3 d) (z.cps.toList.drop p)=some (.row .nil,(z.cps.toList.drop p).drop 1):=by
   unfold Q5;rw[e1]
  refine q1 _ _ er _ _ H2 (G9 S01 b2.sm) (RdAt.on (H:=H1) (y:="]") ⟨hx1,rd.pl,rd.ln,rd.asc⟩ hx2 e) (by rw[drop_drop];rfl) ⟨l,[],rfl,O4 hl ?_,rfl⟩;rw[b2 l (Ne.symm hxl)];exact hl1
end
end K03
namespace K03
open PySem L2 Rg
section
variable{P:Program}{w:World}{K:Frag}{mg:Str->Option Value}{base:Heap}{f:Addr}{fd:FuncData}
theorem yS{last k:Str}{s r:List Nat}(h:P3 last s=some (k,r)):r.length+3<=s.length/\k.length<=100/\B1 last k=true:=by
 obtain⟨e,h1,h2⟩:=lY h;have h8:1<=k.length/\k.length<=8:=by
  unfold D7 at h1;simp only[Bool.and_eq_true,decide_eq_true_eq]at h1;exact h1.1
 rw[C2]at h8;refine⟨?_,by rw[C2];omega,h2⟩;rw[e,length_append,length_cons,length_cons];omega
theorem HK{acc:Ts}{last k:Str}(hi:∀j∈acc.keys,j=last∨B1 j last=true)(h:B1 last k=true):¬k∈acc.keys:=λhm=>by
 rcases hi k hm with e|e
 ·rw[e,mD]at h;cases h
 ·have:=gW e h
  rw[mD]at this;cases this
theorem HL{acc:Ts}{last k:Str}{t:Th}(hi:∀j∈acc.keys,j=last∨B1 j last=true)(h:B1 last k=true):∀j∈(acc.snoc k t).keys,j=k∨B1 j k=true:=λj hj=>by
 rw[Ts.snoc_keys]at hj;rcases mem_append.mp hj with hj|hj
 ·rcases hi j hj with e|e
  ·exact .inr (by rw[e];exact h)
  ·exact .inr (gW e h)
 ·exact .inl (by simpa using hj)
theorem yT:FnScope ["reader","level","record","field"] ["reader","level"] (B4 iF):=by walk_at"sc"
theorem HM{C CB G0:Addr}{d:Nat}(hd:d<=20)(F:Fun K "read_record" "read_record" iF f fd)(B:Blt mg)(h_BadThing:HasN P w K mg base "BadThing" CB G0)(h_Reader_passes:P9 P w K mg base C "passes" 1 ["self","piece"] (bV C))(h_must_pass:M9 P w K mg base "must_pass" 2 ["reader","piece"] (dY C CB))(h_read_field:M9 P w K mg base "read_field" 3 ["reader","last"] (oG C CB))(h_read_thing:M9 P w K mg base "read_thing" (2*d+6) ["reader","level"] (T2 C CB (21-(d:Nat)) (B3 d))):FnOk P w K mg base (F9 P w) (2*d+7) f fd ["reader","level"] (T2 C CB (20-(d:Nat)) (O6 (B3 d))):=by
 refine Fun.okx F yT (by walk_at"ln") (λcdv A outer s H vs Q E hr h=>?_);obtain⟨x,dx,z,p,rfl,rd,q0,q1⟩:=h;have hu:=F6 hr;have nd:=yT.nd;refine F8 (A5 (C8 (i:=2) nd rfl (Or.inl rfl) kW)
  (A5 (C5 (E2 K (V2 h_Reader_passes hr (!1) (qv 0) (A0 D1 A1)) (λ_=>rfl)) (A8 (B7 (qv 2))) C7)
  (A5 (C8 (i:=3) nd rfl (Or.inl rfl) (Q4 h_read_field Q2 hr (!1) rfl (A0 (qv 0) (A0 D1 A1))))
  (A5 (gG hu (Q4 h_read_thing Q2 hr (!1) rfl (A0 (qv 0) (A0 (A3 (E3 K) (qv 1) A2) A1))) (qv 2) (qv 3))
  (A5 (cY vL (E2 K (V2 h_Reader_passes hr (!1) (qv 0) (A0 D1 A1)) (λ_=>rfl)) (A5 (C8 (i:=3) nd rfl (Or.inl rfl) (Q4 h_read_field Q2 hr (!1) rfl (A0 (qv 0) (A0 (qv 3) A1))))
  (A8 (gG hu (Q4 h_read_thing Q2 hr (!1) rfl (A0 (qv 0) (A0 (A3 (E3 K) (qv 1) A2) A1))) (qv 2) (qv 3)))))
  (A5 (O1 (Q4 h_must_pass Q2 hr (!1) rfl (A0 (qv 0) (A0 D1 A1))))
  (A8 (B7 (qv 2))))))))) ?_
 have elev:[V.ref x,V.int (20-(d:Int)+1)]=[V.ref x,V.int (21-(d:Int))]:=by rw[show(20:Int)-d+1=21-d by omega]
 refine λl hl=>?_
 have hxl:x≠l:=E6 rd.at_ hl;have S01:Same (E8 H x) (upd H l (.dK [])):=yQ hl;have hx1:upd H l (.dK []) x=some (.ins C dx (L6 z p)):=J6 hxl rd.at_;have hl1:upd H l (.dK []) l=some (.dK []):=A6;have D01:Dom H (upd H l (.dK [])):=U3 S01 hx1;show aH _ _ _ _ (upd H l (.dK []));generalize upd H l (.dK [])=H1 at S01 hx1 hl1 D01 ⊢;have gx:H1 x≠none:=by rw[hx1];simp
 have gl:H1 l≠none:=by rw[hl1];simp
 have hln:=rd.ln;have hlp:=rd.pl;have rd1:RdAt C x dx z p H1:=⟨hx1,rd.pl,rd.ln,rd.asc⟩;refine⟨_,rfl,x,dx,_,rfl,hx1,rfl,x,dx,z,"}",p,rfl,hx1,rd.pl,!0,λe=>⟨_,rfl,B5 ?_⟩,λe H2 b2 hx2=>⟨_,rfl,D0 ⟨_,rfl,?_⟩⟩⟩
 ·have e1:=P4.2 (show[125].isPrefixOf (z.cps.toList.drop p)=false from e)
  have er:∀o,P3 Str.empty (z.cps.toList.drop p)=o->O6 (B3 d) (z.cps.toList.drop p)=o.bind λf=>(B3 d f.2).bind λp=>(K6 (B3 d) (p.2.length+1) f.1 p.2).map λq=>(.dic (.cons f.1 p.1 q.1),q.2):=λo ho=>by
   unfold O6;rw[e1,ho]
  refine⟨_,rfl,x,dx,z,"",p,rfl,hx1,rd.pl,rd.ln,rd.asc,!0,λh0 H2 s2=>q0 (by rw[er _ h0];rfl) H2 (G9 S01 s2),λk1 r1 h1 p2 H2 s2 hx2 hp2 hr2=>?_⟩;have er1:=er _ h1;obtain⟨hle1,hk1,hlt1⟩:=yS h1;rw[←hr2,N2 hp2,N2 rd.pl]at hle1;have rd2:RdAt C x dx z p2 H2:=rd1.but hx2 hp2;have hl2:H2 l=some (.dK []):=s2 _ _ (by rw[K2 (Ne.symm hxl)];exact hl1);have D2:Dom H1 H2:=U3 s2 hx2;refine⟨_,rfl,_,rfl,L0 ⟨x,dx,z,p2,elev,rd2,λh0 H3 s3=>q0 (by rw[er1,←hr2];show(B3 d (z.cps.toList.drop p2)).bind _=none;rw[h0];rfl) H3 (G9 S01 (G9 s2 s3)),λt3 r3 h3 v3 p3 H3 s3 rd3 hr3 rep3=>⟨_,rfl,_,rfl,?_⟩⟩⟩;have hl3:H3 l=some (.dK []):=s3 _ _ (by rw[K2 (Ne.symm hxl)];exact hl2);have hle3:=iJ h3;rw[←hr3,N2 rd3.pl,N2 rd2.pl]at hle3;have h3p:=rd3.pl;have D3:Dom H2 H3:=U3 s3 rd3.at_;have er3:O6 (B3 d) (z.cps.toList.drop p)=(K6 (B3 d) (r3.length+1) k1 r3).map λq=>(.dic (.cons k1 t3 q.1),q.2):=by
   rw[er1,←hr2];show(B3 d (z.cps.toList.drop p2)).bind _=_;rw[h3];rfl
  refine gA hl3 (by show 0<sizeLine;decide) ?_;refine⟨λm σ H'=>∃(p' n:Nat)(kvs:List (A4×V))(acc:Ts)(last:Str),σ=[some (.ref x),some (.int (20-(d:Int))),some (.ref l),some (.str last)]/\Same (E8 H x) H'/\RdAt C x dx z p' H'/\H' l=some (.dK kvs)/\RepD (C6 H1 H') acc kvs/\Dom H1 H'/\kvs.length<=p'/\last.length<=100/\(∀j∈acc.keys,j=last∨B1 j last=true)/\m=z.length-p'/\(z.cps.toList.drop p').length<n/\
    O6 (B3 d) (z.cps.toList.drop p)=(K6 (B3 d) n last (z.cps.toList.drop p')).map λq=>(.dic (acc.app q.1),q.2),
   ⟨_,p3,r3.length+1,[(Sum.inr k1,v3)],.cons k1 t3 .nil,k1,rfl,iI hl (G9 S01 (G9 s2 s3)),rd3.but (J6 hxl rd3.at_) rd3.pl,A6,?_,(D2.trans D3).upd,by show 1<=p3;omega,hk1,λj hj=>.inl (by simpa [Ts.keys]using hj),rfl,by rw[hr3];omega,?_⟩,?_⟩
  ·rw[W9 gl]
   exact⟨v3,[],rfl,rep3.mono (O5 D2),rfl⟩
  ·rw[er3,hr3]
   rfl
  rintro m _ H' ⟨p',n,kvs,acc,last,rfl,sm,rd',hl',rep,D',hyl,hlast,hinv,rfl,hn,her⟩;have hlp':=rd'.pl;obtain⟨n,rfl⟩:∃k,n=k+1:=⟨n-1,!1⟩
  refine⟨_,rfl,x,dx,_,rfl,rd'.at_,rfl,x,dx,z,", ",p',rfl,rd'.at_,rd'.pl,!0,λe=>⟨_,rfl,B5 ?_⟩,λe H3 b3 hx3=>⟨_,rfl,D0 ?_⟩⟩
  ·have e2:=aB.2 (show[44,32].isPrefixOf (z.cps.toList.drop p')=false from e)
   rw[HI e2]at her;refine⟨_,rfl,x,dx,z,"}",p',rfl,rd'.at_,rd'.pl,!0,λe3=>?_,λe3 H3 b3 hx3=>⟨_,rfl,?_⟩⟩
   ·have e4:=P4.2 (show[125].isPrefixOf (z.cps.toList.drop p')=false from e3)
    rw[e4]at her;exact q0 her _ sm
   ·have e4:=P4.1 (show[125].isPrefixOf (z.cps.toList.drop p')=true from e3)
    rw[e4]at her;refine q1 _ _ her _ _ H3 (G9 sm b3.sm) (rd'.on (y:="}") hx3 e3) (by rw[drop_drop];rfl) ?_;show Rep (C6 H H3) (.dic (acc.app .nil)) (.ref l);rw[Ts.app_nil];have hl3:H3 l=some (.dK kvs):=by rw[b3 l (Ne.symm hxl)];exact hl'
    exact⟨l,kvs,rfl,O4 hl hl3,(rep.mono (aC gx b3.sm)).mono (O5 D01)⟩
  ·have e2:=aB.1 (show[44,32].isPrefixOf (z.cps.toList.drop p')=true from e)
   rw[HH e2,drop_drop]at her;have rd4:=rd'.on (y:=", ") hx3 e;have hp3:p'+(", " : Str).length=p'+2:=rfl;rw[hp3]at rd4;have hl4:H3 l=some (.dK kvs):=by rw[b3 l (Ne.symm hxl)];exact hl'
   have s4:=G9 sm b3.sm;have D4:Dom H1 H3:=λb hb=>by
    by_cases eb:b=x
    ·rw[eb,hx3];simp
    ·rw[b3 b eb];exact D' b hb
   refine⟨fun σ H2=>∃m',m'<z.length-p'/\∃(p' n:Nat)(kvs:List (A4×V))(acc:Ts)(last:Str),σ=[some (.ref x),some (.int (20-(d:Int))),some (.ref l),some (.str last)]/\Same (E8 H x) H2/\RdAt C x dx z p' H2/\H2 l=some (.dK kvs)/\RepD (C6 H1 H2) acc kvs/\Dom H1 H2/\kvs.length<=p'/\last.length<=100/\(∀j∈acc.keys,j=last∨B1 j last=true)/\m'=z.length-p'/\(z.cps.toList.drop p').length<n/\
    O6 (B3 d) (z.cps.toList.drop p)=(K6 (B3 d) n last (z.cps.toList.drop p')).map λq=>(.dic (acc.app q.1),q.2),λ_ _ z=>z,?_⟩
   refine⟨_,rfl,_,rfl,x,dx,z,last,p'+2,rfl,rd4.at_,rd4.pl,rd4.ln,rd4.asc,hlast,λh0 H4 s5=>q0 (by rw[her,h0];rfl) H4 (G9 s4 s5),λk5 r5 h5 p5 H5 s5 hx5 hp5 hr5=>?_⟩;rw[h5]at her;obtain⟨hle5,hk5,hlt5⟩:=yS h5;rw[←hr5,N2 hp5,N2 rd4.pl]at hle5;have rd5:RdAt C x dx z p5 H5:=rd4.but hx5 hp5;have hl5:H5 l=some (.dK kvs):=s5 _ _ (by rw[K2 (Ne.symm hxl)];exact hl4);have D5:Dom H3 H5:=U3 s5 hx5;have her5:O6 (B3 d) (z.cps.toList.drop p)=(((B3 d (z.cps.toList.drop p5)).bind λp=>(K6 (B3 d) n k5 p.2).map λq=>(Ts.cons k5 p.1 q.1,q.2))).map λq=>(.dic (acc.app q.1),q.2):=by
    rw[her,hr5];rfl
   refine⟨_,rfl,_,rfl,L0 ⟨x,dx,z,p5,elev,rd5,λh0 H6 s6=>q0 (by rw[her5,h0];rfl) H6 (G9 s4 (G9 s5 s6)),λt6 r6 h6 v6 p6 H6 s6 rd6 hr6 rep6=>⟨_,rfl,_,rfl,?_⟩⟩⟩;have hl6:H6 l=some (.dK kvs):=s6 _ _ (by rw[K2 (Ne.symm hxl)];exact hl5);have hle6:=iJ h6;rw[←hr6,N2 rd6.pl,N2 rd5.pl]at hle6;have h4p:=rd4.pl;have h6p:=rd6.pl;have D6:Dom H5 H6:=U3 s6 rd6.at_;rw[N2 rd'.pl]at hn;rw[h6]at her5;have rep5:=((rep.mono (aC gx b3.sm)).mono (aC gx s5)).mono (aC gx s6);refine gA hl6 (lt_of_le_of_lt (show kvs.length<=100000 by omega) (!3)) ?_;rw[CQ _ (RepD.fresh rep5 (HK hinv hlt5))];refine⟨_,?_,p6,n,kvs++[(Sum.inr k5,v6)],acc.snoc k5 t6,k5,rfl,iI hl (G9 s4 (G9 s5 s6)),rd6.but (J6 hxl rd6.at_) rd6.pl,A6,?_,(D4.trans (D5.trans D6)).upd,by rw[length_append];show kvs.length+1<=p6;omega,hk5,HL hinv hlt5,rfl,by rw[N2 rd6.pl];omega,?_⟩
   ·omega
   ·rw[W9 gl]
    exact RepD.snoc (rep6.mono (O5 (D4.trans D5))) rep5
   ·rw[her5,←hr6]
    show((K6 (B3 d) n k5 (z.cps.toList.drop p6)).map _).map _=_;rw[Option.map_map]
    congr 1
    funext q
    show _=(Th.dic ((acc.snoc k5 t6).app q.1),q.2);rw[Ts.snoc_app];rfl
 ·have e1:=P4.1 (show[125].isPrefixOf (z.cps.toList.drop p)=true from e)
  have er:O6 (B3 d) (z.cps.toList.drop p)=some (.dic .nil,(z.cps.toList.drop p).drop 1):=by
   unfold O6;rw[e1]
  refine q1 _ _ er _ _ H2 (G9 S01 b2.sm) (RdAt.on (H:=H1) (y:="}") rd1 hx2 e) (by rw[drop_drop];rfl) ⟨l,[],rfl,O4 hl ?_,rfl⟩;rw[b2 l (Ne.symm hxl)];exact hl1
theorem oH:FnScope ["reader","level"] ["reader","level"] (B4 dU):=by walk_at"sc"
theorem HN{C CB G0:Addr}(F:Fun K "read_thing" "read_thing" dU f fd)(G:Glo mg)(h_BadThing:HasN P w K mg base "BadThing" CB G0):FnOk P w K mg base (F9 P w) 6 f fd ["reader","level"] (T2 C CB (21-(0:Nat)) (B3 0)):=by
 refine Fun.okx F oH (by walk_at"ln") (λcdv A outer s H vs Q E hr h=>?_);obtain⟨x,dx,z,p,rfl,rd,q0,q1⟩:=h;refine F8 (A5 (C5 (J1 gI (qv 1) (dA rfl G.DEEPEST) rfl) (A8 (X1 h_BadThing hr rfl (A0 D1 A1))) C7) Fa) ?_;exact⟨_,rfl,_,_,rfl,rfl,_,rfl,M8 (!3) ⟨!3,q0 rfl H (HB (Same.refl H))⟩⟩
theorem HP{C CB G0:Addr}{d:Nat}(hd:d<=19)(F:Fun K "read_thing" "read_thing" dU f fd)(B:Blt mg)(G:Glo mg)(h_BadThing:HasN P w K mg base "BadThing" CB G0)(h_Reader_passes:P9 P w K mg base C "passes" 1 ["self","piece"] (bV C))(h_read_row:M9 P w K mg base "read_row" (2*d+7) ["reader","level"] (T2 C CB (20-(d:Nat)) (Q5 (B3 d))))(h_read_record:M9 P w K mg base "read_record" (2*d+7) ["reader","level"] (T2 C CB (20-(d:Nat)) (O6 (B3 d))))(h_read_atom:M9 P w K mg base "read_atom" 2 ["reader"] (oF C CB)):
  FnOk P w K mg base (F9 P w) (2*(d+1)+6) f fd ["reader","level"] (T2 C CB (21-((d+1:Nat):Int)) (B3 (d+1))):=by
 refine Fun.okx (k:=2*d+7) F oH (by walk_at"ln") (λcdv A outer s H vs Q E hr h=>?_);obtain⟨x,dx,z,p,rfl,rd,q0,q1⟩:=h;have hu:=F6 hr;have nd:=oH.nd;have elev:[V.ref x,V.int (21-((d+1:Nat):Int))]=[V.ref x,V.int (20-(d:Int))]:=by rw[show(21:Int)-((d+1:Nat):Int)=20-d by omega]
 refine F8 (A5 (C5 (J1 gI (qv 1) (dA rfl G.DEEPEST) rfl) (A8 (X1 h_BadThing hr rfl (A0 D1 A1))) C7)
  (A5 (C5 (E2 K (V2 h_Reader_passes hr (!1) (qv 0) (A0 D1 A1)) (λ_=>rfl)) (A8 (B7 (Q4 h_read_row Q2 hr (!1) rfl (A0 (qv 0) (A0 (qv 1) A1))))) C7)
  (A5 (C5 (E2 K (V2 h_Reader_passes hr (!1) (qv 0) (A0 D1 A1)) (λ_=>rfl)) (A8 (B7 (Q4 h_read_record Q2 hr (!1) rfl (A0 (qv 0) (A0 (qv 1) A1))))) C7)
  (A8 (B7 (Q4 h_read_atom Q2 hr (!1) rfl (A0 (qv 0) A1))))))) ?_
 refine⟨_,rfl,_,_,rfl,rfl,_,rfl,P0 (decide_eq_false (!1)) ?_⟩;refine⟨_,rfl,x,dx,_,rfl,rd.at_,rfl,x,dx,z,"[",p,rfl,rd.at_,rd.pl,!0,λe=>⟨_,rfl,B5 ?_⟩,λe H2 b2 hx2=>⟨_,rfl,D0 ?_⟩⟩
 ·have e1:=P4.2 (show[91].isPrefixOf (z.cps.toList.drop p)=false from e)
  refine⟨_,rfl,x,dx,_,rfl,rd.at_,rfl,x,dx,z,"{",p,rfl,rd.at_,rd.pl,!0,λe'=>⟨_,rfl,B5 ?_⟩,λe' H2 b2 hx2=>⟨_,rfl,D0 ?_⟩⟩
  ·have e2:=P4.2 (show[123].isPrefixOf (z.cps.toList.drop p)=false from e')
   have er:B3 (d+1) (z.cps.toList.drop p)=U0 (z.cps.toList.drop p):=by rw[B3,e1,e2]
   exact⟨_,rfl,x,dx,z,p,rfl,rd.at_,rd.pl,rd.ln,rd.asc,λh0 H' s'=>q0 (er.trans h0) H' s',λt r h v p' H' s' hx' hp' hr' rep=>q1 t r (er.trans h) v p' H' s' (rd.but hx' hp') hr' (rep _)⟩
  ·have e2:=P4.1 (show[123].isPrefixOf (z.cps.toList.drop p)=true from e')
   have rd2:=rd.on (y:="{") hx2 e';have er:B3 (d+1) (z.cps.toList.drop p)=O6 (B3 d) (z.cps.toList.drop (p+1)):=by rw[B3,e1,e2,drop_drop]
   have hp1:p+("{" : Str).length=p+1:=rfl;rw[hp1]at rd2;refine⟨_,rfl,_,rfl,x,dx,z,p+1,elev,rd2,λh0 H' s'=>q0 (er.trans h0) H' (G9 b2.sm s'),λt r h v p' H' s' rd' hr' rep=>q1 t r (er.trans h) v p' H' (G9 b2.sm s') rd' hr' (rep.mono (O5 ?_))⟩;exact U3 b2.sm hx2
 ·have e2:=P4.1 (show[91].isPrefixOf (z.cps.toList.drop p)=true from e)
  have rd2:=rd.on (y:="[") hx2 e;have er:B3 (d+1) (z.cps.toList.drop p)=Q5 (B3 d) (z.cps.toList.drop (p+1)):=by rw[B3,e2,drop_drop]
  have hp1:p+("[" : Str).length=p+1:=rfl;rw[hp1]at rd2;refine⟨_,rfl,_,rfl,x,dx,z,p+1,elev,rd2,λh0 H' s'=>q0 (er.trans h0) H' (G9 b2.sm s'),λt r h v p' H' s' rd' hr' rep=>q1 t r (er.trans h) v p' H' (G9 b2.sm s') rd' hr' (rep.mono (O5 ?_))⟩;exact U3 b2.sm hx2
end
end K03
namespace K03
open PySem L2 Rg
section
variable{P:Program}{w:World}{K:Frag}{mg:Str->Option Value}{base:Heap}{f:Addr}{fd:FuncData}
section
variable{g:Addr}{gd:FuncData}
theorem oI{x:Str}(h:D7 x=true):x.length<=1000:=by
 unfold D7 at h;simp only[Bool.and_eq_true,decide_eq_true_eq]at h;omega
theorem HQ:FnScope ["word"] ["word"] (B4 nE):=by walk_at"sc"
theorem HR(F:Fun K "word_key" "word_key" nE f fd)(B:Blt mg):FnOk P w K mg base B9 1 f fd ["word"] W3:=by
 refine F.ok HQ (by walk_at"ln") (λcdv A outer s H vs Q E hr h=>?_);obtain⟨x,rfl,hx,q⟩:=h;refine⟨_,Y3 (Y4 (cH (K4 (aN iV rfl B.len boot_len (K4 (pv 0) O8)) (K4 (pv 0) O8)))),?_⟩;exact⟨_,rfl,_,_,rfl,⟨N8 hx,rfl⟩,_,rfl,(by show 2<=sizeLine;decide),λp hp=>q p hp⟩
def yU:Sp:=λvs H Q _=>∃(a:Addr)(kvs:List (A4×V))(xs:List Str),vs=[.ref a]/\H a=some (.dK kvs)/\kvs.length<128/\kvs.map (·.1)=xs.map Sum.inr/\xs.Nodup/\(∀x∈xs,x.length<=1000)/\∀(r:Addr)(H1:Hp),Same H H1->H1 r=some (.lst ((B8 xs).map V.str))->Q (.ref r) H1
theorem HS:FnScope ["holder"] ["holder"] (B4 nF):=by walk_at"sc"
theorem HU(F:Fun K "keys_of" "keys_of" nF f fd)(B:Blt mg)(G:FnOk P w K mg base B9 1 g gd ["word"] W3)(bG:Binds K gd ["word"] [])(mG:mg "word_key"=some (.ref g)):FnOk P w K mg base B9 4 f fd ["holder"] yU:=by
 refine F.ok HS (by walk_at"ln") (λcdv A outer s H vs Q E hr h=>?_);obtain⟨a,kvs,xs,rfl,ha,hl,hk,nd,hx,q⟩:=h;refine⟨_,eN (eO (iO (aN fV rfl B.isi boot_isinstance (K4 (pv 0) (K4 (eL (v:=.ty "list") rfl B.list PyProof.Rows.boot_list rfl) O8)))) pT eM)
  (Y3 (Y4 (tE (GH (sp:=W3) rfl (λ_ _ z=>z) G hr bG) rfl B.sorted PyProof.Rows.boot_sorted (K4 (pv 0) O8) (rE (pH (v:=.ref g) rfl mG rfl) rD)))),?_⟩
 refine⟨_,rfl,.ref a,"list",_,_,rfl,.dK ha,tK K,_,rfl,B5 ?_⟩;exact⟨_,rfl,a,kvs,rfl,rfl,ha,λ_ _ _ _ _ z=>z,hl,xs,hk,nd,hx,λr H1 sm e=>q r H1 sm e⟩
def oJ:Sp:=λvs H Q _=>∃(H0:Hp)(t:Th)(v:V),vs=[v]/\Same H0 H/\Rep H0 t v/\t.Gn/\t.size<=100000/\
 ∀(r:Addr)(H':Hp)(ts:List V),Same H H'->H' r=some (.lst ts)->PartsN H0 H' ts (E1 t)->Q (.ref r) H'
theorem HV:FnScope ["thing"] ["thing"] (B4 dS):=by walk_at"sc"
theorem HW(F:Fun K "parts_of" "parts_of" dS f fd)(B:Blt mg)(G:FnOk P w K mg base B9 4 g gd ["holder"] yU)(bG:Binds K gd ["holder"] [])(kG:keepIn K (.ref g)=true)(mG:mg "keys_of"=some (.ref g)):
  FnOk P w K mg base B9 5 f fd ["thing"] oJ:=by
 refine F.ok HV (by walk_at"ln") (λcdv A outer s H vs Q E hr h=>?_);obtain⟨H0,t,v,rfl,smE,rep0,ok,hsz,q⟩:=h;have rep:=rep0.mono smE;have hu:=F6 hr;refine⟨_,eN (eO (iO (aN fV rfl B.isi boot_isinstance (K4 (pv 0) (K4 (eL (v:=.ty "list") rfl B.list PyProof.Rows.boot_list rfl) O8)))) (Y3 (Y4 (wF (fr:=[]) rfl (iQ (pv 0)) (LcSt.ok (sc:=B4 dS) (N:=["thing"]) ⟨!0,rfl,!0,rfl,!0,!0,!0⟩ rfl rfl) λfp C s H=>cH (K4 pG (K4 (pv 0) O8))))) eM)
  (eN (eO (iO (aN fV rfl B.isi boot_isinstance (K4 (pv 0) (K4 (eL (v:=.ty "dict") rfl B.dict PyProof.Rows.boot_dict rfl) O8)))) (Y3 (Y4 (wF (fr:=[("thing",0)]) rfl
   (iQ (iY G hr rfl mG kG bG .nil aO (K4 (pv 0) O8)))
   (LcSt.ok (sc:=B4 dS) (N:=["thing"]) ⟨!0,rfl,!0,rfl,!0,!0,!0⟩ rfl rfl) λfp C s H=>cH (K4 (pv 0) (K4 (CY hu (pv 1) (pv 0) (λ_ _=>rfl)) O8))))) eM)
  (Y3 (Y4 (rB O8)))),?_⟩
 refine⟨_,rfl,v,"list",_,_,rfl,rep.ty,cO _ t,_,rfl,?_⟩;cases t with
 |num i=>
  refine B5 ⟨_,rfl,v,"dict",_,_,rfl,rep.ty,R8 _ _,_,rfl,B5 ⟨zero_le _,λr hr'=>?_⟩⟩;exact q r _ [] (C3 hr' _) A6 .nil
 |word x=>
  refine B5 ⟨_,rfl,v,"dict",_,_,rfl,rep.ty,R8 _ _,_,rfl,B5 ⟨zero_le _,λr hr'=>?_⟩⟩;exact q r _ [] (C3 hr' _) A6 .nil
 |row l=>
  obtain⟨a,xs,rfl,h20,h3⟩:=(rep0:∃a xs,v=V.ref a/\H0 a=some (.lst xs)/\RepR H0 l xs);have h2:=smE _ _ h20;have hl9:l.len+1<=100000:=le_trans (succ_le_succ (X7 l)) hsz;have hxl:xs.length=l.len:=h3.len;have hkl:(E1 (.row l)).length=l.len:=by show(l.toL.map _).length=_;rw[length_map,cR]
  refine D0 ⟨_,rfl,a,rfl,⟨xs,SqL.of h2⟩,tI (xs:=xs) (λi ys H'=>Same H H'/\PartsN H0 H' ys ((E1 (.row l)).take i)/\ys.length=i) (le_of_lt (J7 _ (!1))) ⟨Same.refl H,.nil,rfl⟩ (λi ys H' hi p=>⟨SqL.of (p.1 _ _ h2),p.2.2⟩) (λi x ys H' hx p=>?_) (λys H' p r hr'=>?_)⟩
  ·obtain⟨sm,pa,hy⟩:=p
   obtain⟨c,hc,rc⟩:=h3.at i x hx;refine⟨x,rfl,(by show 2<=sizeLine;decide),λp hp=>?_⟩;have sm2:Same H' (upd H' p (.tup [.str "",x])):=C3 hp _;refine⟨sm.trans sm2,?_,by rw[length_append,hy];rfl⟩;have hk:(E1 (.row l))[i]?=some (Str.empty,c):=by
    show(l.toL.map λp=>(Str.empty,p.2))[i]?=_;rw[←lH,getElem?_map]at hc;rw[getElem?_map];cases e:l.toL[i]? with
    |none=>rw[e]at hc;cases hc
    |some z=>rw[e]at hc;cases hc;rfl
   rw[take_succ,hk];exact PartsN.app (pa.mono (aR sm2)) (.cons ⟨p,x,rfl,A6,rc⟩ .nil)
  ·obtain⟨sm,pa,hy⟩:=p
   rw[take_of_length_le (!1)]at pa;have sm2:=C3 hr' (.lst ys);exact q r _ ys (sm.trans sm2) A6 (pa.mono (aR sm2))
 |dic l=>
  obtain⟨a,kvs,rfl,h20,h3⟩:=(rep0:∃a kvs,v=V.ref a/\H0 a=some (.dK kvs)/\RepD H0 l kvs);have h2:=smE _ _ h20;have hl9:l.len<=100:=ok.1;have okl:∀x∈l.keys,D7 x=true:=λx hx=>(Y1 ok.2.2 _ (Y2 l hx)).1
  have hnd:l.keys.Nodup:=ok.2.1;have hkl:=Ts.keys_len l;refine B5 ⟨_,rfl,.ref a,"dict",_,_,rfl,rep.ty,R8 _ _,_,rfl,D0 ⟨_,rfl,a,kvs,l.keys,rfl,h2,by rw[h3.len];omega,h3.keys,hnd,λx hx=>oI (okl x hx),λr0 H1 sm0 e0=>?_⟩⟩;have pm:=N6 l.keys;have hyl:(B8 l.keys).length=l.len:=by rw[pm.length_eq,hkl]
  refine⟨r0,rfl,⟨_,SqL.of e0⟩,tI (xs:=(B8 l.keys).map V.str) (λi zs H'=>Same H1 H'/\PartsN H0 H' zs (((B8 l.keys).take i).map λk=>(k,l.fld k))/\zs.length=i) (N8 (by rw[length_map];omega)) ⟨Same.refl H1,.nil,rfl⟩ (λi ys H' hi p=>⟨SqL.of (p.1 _ _ e0),p.2.2⟩) (λi x zs H' hx p=>?_) (λzs H' p r hr'=>?_)⟩
  ·obtain⟨sm,pa,hy⟩:=p
   rw[getElem?_map]at hx;cases ek:(B8 l.keys)[i]? with
   |none=>rw[ek]at hx;cases hx
   |some k=>
    rw[ek]at hx;cases hx;have hc:=cP l (pm.mem_iff.mp (mem_of_getElem? ek));obtain⟨y,hy2,ry⟩:=h3.val hc;have hd:=DGet.k (k:=Sum.inr k) (sm _ _ (sm0 _ _ h2));rw[hy2]at hd;refine⟨_,rfl,_,rfl,_,rfl,a,y,rfl,hd,(by show 2<=sizeLine;decide),λp hp=>?_⟩;have sm2:Same H' (upd H' p (.tup [.str k,y])):=C3 hp _;refine⟨sm.trans sm2,?_,by rw[length_append,hy];rfl⟩;rw[take_succ,ek,map_append];exact PartsN.app (pa.mono (aR sm2)) (.cons ⟨p,y,rfl,A6,ry⟩ .nil)
  ·obtain⟨sm,pa,hy⟩:=p
   rw[take_of_length_le (by rw[length_map];exact le_refl _)]at pa;have sm2:=C3 hr' (.lst zs);exact q r _ zs ((sm0.trans sm).trans sm2) A6 (pa.mono (aR sm2))
end
def yV:Sp:=λvs H Q _=>∃(t:Th)(v:V),vs=[v]/\Rep H t v/\t.Gn/\t.size<=100000/\∀(r:Addr)(H':Hp)(fs:List V),Same H H'->H' r=some (.lst fs)->fs.length=t.size->Q (.ref r) H'
def J4(cs:List (Str×Th)):Nat:=(cs.map λp=>p.2.size).sum
theorem oK(cs ds:List (Str×Th)):J4 (cs++ds)=J4 cs+J4 ds:=by unfold J4;rw[map_append,List.sum_append]
theorem yW(cs:List (Str×Th)):J4 cs.reverse=J4 cs:=by unfold J4;rw[List.map_reverse];exact(List.reverse_perm _).sum_nat
theorem dZ:∀cs:List (Str×Th),cs.length<=J4 cs
 |[]=>zero_le _
 |c::cs=>by
  have:=dZ cs;have:=tV c.2;show cs.length+1<=c.2.size+J4 cs;omega
theorem yX:FnScope ["thing","found","waiting","part"] ["thing"] (B4 nG):=by walk_at"sc"
theorem HX(F:Fun K "walked" "walked" nG f fd)(B:Blt mg)(h_parts_of:C4 P w K mg base "parts_of" 5 ["thing"] oJ):FnOk P w K mg base B9 6 f fd ["thing"] yV:=by
 refine F.ok yX (by walk_at"ln") (λcdv A outer s H vs Q E hr h=>?_);obtain⟨t,v,rfl,rep,ok,hz,q⟩:=h;have hu:=F6 hr;have nd:=yX.nd;refine F8 (A5 (C8 (i:=1) nd rfl (Or.inl rfl) (O0 A1))
  (A5 (C8 (i:=2) nd rfl (Or.inl rfl) (O0 (A0 (uK (A0 D1 (A0 (qv 0) A1))) A1)))
  (A5 (cY PassesOwn.never (E2 K (qv 2) (λ_=>rfl)) (A5 (C8 (i:=3) nd rfl (Or.inl rfl) (uL K PySem.F.plainAttrs_list PySem.F.slot_list_pop PySem.F.type_list_pop uP (qv 2)))
  (A5 (O1 (M5 K PySem.F.plainAttrs_list PySem.F.slot_list_append PySem.F.type_list_append T9 (qv 1) (A0 (qv 3) A1)))
  (A8 (O1 (M5 K PySem.F.plainAttrs_list PySem.F.slot_list_extend PySem.F.type_list_extend uQ (qv 2) (A0 (uS rfl K rfl B.list rfl B.rev (C1 h_parts_of hr (!3) rfl (A0 (R4 K hu (qv 3) A2 (λ_ _=>rfl)) A1))) A1)))))))
  (A8 (B7 (qv 1)))))) ?_
 refine⟨zero_le _,λfo hfo=>?_⟩;refine⟨_,rfl,(by show 2<=sizeLine;decide),λp0 hp0=>⟨(by show 1<=sizeLine;decide),λwt hwt=>?_⟩⟩;obtain⟨n1,hp0'⟩:=lI hp0;obtain⟨n2,hwt'⟩:=lI hwt;obtain⟨n3,hwt''⟩:=lI hwt';refine⟨λm σ' H'=>∃(p3:Option V)(ws fs:List V)(cs:List (Str×Th)),σ'=[some v,some (.ref fo),some (.ref wt),p3]/\Same H H'/\H' fo=some (.lst fs)/\H' wt=some (.lst ws)/\PartsN H H' ws cs/\(∀c∈cs,c.2.Gn)/\m=J4 cs/\fs.length+J4 cs=t.size,
  ⟨_,none,[.ref p0],[],[(Str.empty,t)],rfl,V4 (V4 (V4 (Same.refl H) hfo) hp0') hwt'',by rw[A9 (Ne.symm n3),A9 (Ne.symm n1),A6],A6,.cons ⟨p0,v,rfl,by rw[A9 (Ne.symm n2),A6];rfl,rep⟩ .nil,λc hc=>by rw[mem_singleton.mp hc];exact ok,rfl,by show 0+(t.size+0)=_;omega⟩,λm σ' H' hw=>?_⟩
 obtain⟨p3,ws,fs,cs,rfl,sm,hF,hW,pa,okc,rfl,hsum⟩:=hw;have hcl:=dZ cs;refine⟨.ref wt,rfl,!ws.isEmpty,.inl ⟨ws,SqL.of hW,rfl⟩,?_⟩;by_cases hne:ws=[]
 ·subst hne
  have ecs:cs=[]:=List.eq_nil_of_length_eq_zero pa.len.symm;subst ecs;exact B5 ⟨_,rfl,q fo H' fs sm hF (by have:fs.length+0=t.size:=hsum;omega)⟩
 ·obtain⟨wr,x,cr,c,rfl,rfl,par,p,y,rfl,hp,rc⟩:=kA pa hne
  have ebool:(!(wr++[V.ref p]).isEmpty)=true:=by simp
  rw[ebool];have par':PartsN H H' wr cr:=par;have hlr:wr.length=cr.length:=PartsN.len par';have hcs:J4 (cr++[c])=J4 cr+c.2.size:=by rw[oK];show J4 cr+(c.2.size+0)=_;rw[Nat.add_zero]
  have okc2:=okc c (!2);have hk:=mU okc2;have hkl:=dZ (E1 c.2);refine D0 ⟨fun σ2 H2=>∃m',m'<J4 (cr++[c])/\∃(p3:Option V)(ws fs:List V)(cs:List (Str×Th)),σ2=[some v,some (.ref fo),some (.ref wt),p3]/\Same H H2/\H2 fo=some (.lst fs)/\H2 wt=some (.lst ws)/\PartsN H H2 ws cs/\(∀c∈cs,c.2.Gn)/\m'=J4 cs/\fs.length+J4 cs=t.size,λ_ _ z=>z,?_⟩;refine⟨.ref wt,rfl,.inl ⟨rfl,_,SqL.of hW⟩,wt,_,.ref p,rfl,rfl,hW,!2,?_⟩;rw[dropLast_concat];have hF1:upd H' wt (.lst wr) fo=some (.lst fs):=by rw[A9 (Ne.symm n3)];exact hF
  have t1:TupsStay H' (upd H' wt (.lst wr)):=TupsStay.lst hW;refine⟨.ref fo,rfl,.inl ⟨rfl,_,SqL.of hF1⟩,.ref p,rfl,fo,fs,.ref p,rfl,rfl,hF1,J7 _ (!1),?_⟩;have t2:TupsStay (upd H' wt (.lst wr)) (upd (upd H' wt (.lst wr)) fo (.lst (fs++[.ref p]))):=TupsStay.lst hF1;have hW2:upd (upd H' wt (.lst wr)) fo (.lst (fs++[.ref p])) wt=some (.lst wr):=by rw[A9 n3,A6]
  have sm2:Same H (upd (upd H' wt (.lst wr)) fo (.lst (fs++[.ref p]))):=V4 (V4 sm hwt'') hfo;have hF2:upd (upd H' wt (.lst wr)) fo (.lst (fs++[.ref p])) fo=some (.lst (fs++[.ref p])):=A6;refine⟨.ref wt,rfl,.inl ⟨rfl,_,SqL.of hW2⟩,.ref p,rfl,ED (i:=1) (t2 _ _ (t1 _ _ hp)) rfl ⟨H,c.2,y,rfl,sm2,rc,okc2,!1,λr H3 ts sm3 hr3 pa3=>?_⟩⟩;refine⟨r,ts,rfl,SqL.of hr3,λr2 hr2=>?_⟩;have hr2w:wt≠r2:=E6 (sm3 _ _ hW2) hr2;have hr2f:fo≠r2:=E6 (sm3 _ _ hF2) hr2;have hW3:upd H3 r2 (.lst ts.reverse) wt=some (.lst wr):=by rw[A9 hr2w];exact sm3 _ _ hW2
  have hH2:H r2=none:=(sm2.trans sm3).free hr2;have htl:=pa3.len;refine⟨wt,r2,wr,ts.reverse,rfl,rfl,hW3,A6,?_,?_⟩
  ·rw[length_reverse]
   exact le_of_lt (J7 _ (by have hk2:c.2.size=1+J4 (E1 c.2):=hk;have:=dZ cr;rw[hcs]at hsum;omega))
  ·have t3:TupsStay H3 (upd (upd H3 r2 (.lst ts.reverse)) wt (.lst (wr++ts.reverse))):=(aR (C3 hr2 _)).trans (TupsStay.lst hW3)
   have tA:=((t1.trans t2).trans (aR sm3)).trans t3;have hk':c.2.size=1+J4 (E1 c.2):=hk;refine⟨_,?_,some (.ref p),wr++ts.reverse,fs++[.ref p],cr++(E1 c.2).reverse,rfl,V4 (V4 (sm2.trans sm3) hH2) hwt'',?_,A6,PartsN.app (PartsN.mono tA par') (PartsN.mono t3 (PartsN.rev pa3)),λd hd=>?_,rfl,?_⟩
   ·rw[oK,yW,hcs];omega
   ·rw[A9 (Ne.symm n3),A9 hr2f]
    exact sm3 _ _ hF2
   ·rcases mem_append.mp hd with hd|hd
    ·exact okc d (mem_append_left _ hd)
    ·exact mS okc2 d (List.mem_reverse.mp hd)
   ·rw[length_append,oK,yW]
    rw[hcs]at hsum;show fs.length+1+_=_;omega
def yY:Sp:=λvs H Q _=>∃(t:Th)(v:V),vs=[v]/\Rep H t v/\t.Gn/\t.size<=100000/\∀H',Same H H'->Q (.int (t.size:Nat)) H'
theorem HY:FnScope ["thing"] ["thing"] (B4 nH):=by walk_at"sc"
theorem HZ(F:Fun K "size_of" "size_of" nH f fd)(B:Blt mg)(h_walked:C4 P w K mg base "walked" 6 ["thing"] yV):FnOk P w K mg base B9 7 f fd ["thing"] yY:=by
 refine F.ok HY (by walk_at"ln") (λcdv A outer s H vs Q E hr h=>?_);obtain⟨t,v,rfl,rep,ok,hz,q⟩:=h;have hu:=F6 hr;refine F8 (A8 (B7 (F4 (V1 K) rfl B.len boot_len (A0 (C1 h_walked hr (!3) rfl (A0 (qv 0) A1)) A1)))) ?_;refine⟨_,rfl,t,v,rfl,rep,ok,hz,λr H' fs sm hr' hl=>gB (SqL.of hr') ?_⟩;rw[hl];exact q H' sm
end
end K03
namespace K03
open PySem L2 Rg
section
variable{P:Program}{w:World}{K:Frag}{mg:Str->Option Value}{base:Heap}{f:Addr}{fd:FuncData}
abbrev Its(H:Hp):List V->List Th->Prop:=Paired λv c=>Rep H c v
theorem Its.app{H:Hp}:∀{vs ws:List V}{cs ds:List Th},Its H vs cs->Its H ws ds->Its H (vs++ws) (cs++ds)
 |_,_,_,_,.nil,h=>h
 |_,_,_,_,.cons r t,h=>.cons r (Its.app t h)
theorem Its.rev{H:Hp}{vs:List V}{cs:List Th}(h:Its H vs cs):Its H vs.reverse cs.reverse:=by
 induction h with
 |nil=>exact .nil
 |cons r _ ih=>
  rw[reverse_cons,reverse_cons];exact Its.app ih (.cons r .nil)
theorem Its.empty{H:Hp}{vs:List V}{cs:List Th}(h:Its H vs cs):vs.isEmpty=cs.isEmpty:=by cases h<;>rfl
def yZ:Sp:=λvs H Q _=>∃(H0:Hp)(t:Th)(v:V),vs=[v]/\Same H0 H/\Rep H0 t v/\t.Gn/\t.size<=1000/\((∃l,t=.row l)∨∃l,t=.dic l)/\
 ∀(r:Addr)(H':Hp)(xs:List V),Same H H'->H' r=some (.lst xs)->Its H0 xs (S8 t)->Q (.ref r) H'
theorem Ia{t:Th}(h:t.Gn):(E1 t).length+1<=t.size:=by
 have h1:=dZ (E1 t);have h2:t.size=1+J4 (E1 t):=mU h;omega
theorem zA:FnScope ["holder","has_fields","pieces","field","thing"] ["holder"] (B4 nJ):=by walk_at"sc"
theorem Ib(F:Fun K "spread" "spread" nJ f fd)(B:Blt mg)(h_parts_of:C4 P w K mg base "parts_of" 5 ["thing"] oJ):FnOk P w K mg base B9 6 f fd ["holder"] yZ:=by
 refine F.ok zA (by walk_at"ln") (λcdv A outer s H vs Q E hr h=>?_);obtain⟨H0,t,v,rfl,smE,rep0,ok,hsz,hh,q⟩:=h;have rep:=rep0.mono smE;have hu:=F6 hr;have nd:=zA.nd;have hkl:=Ia ok;have wd:∀x:Str,Its H0 [.str x] [.word x]:=λx=>.cons (show Rep H0 (.word x) (.str x)from rfl) .nil
 refine F8 (A5 (C8 (i:=1) nd rfl (Or.inl rfl) (F4 (O3 K) rfl B.isi boot_isinstance (A0 (qv 0) (A0 (N9 (v:=.ty "dict") rfl B.dict PyProof.Rows.boot_dict rfl) A1))))
  (A5 (C8 (i:=2) nd rfl (Or.inl rfl) (O0 A1))
  (A5 (bB PassesOwn.never rfl (gF K (C1 h_parts_of hr (!3) rfl (A0 (qv 0) A1))) (lB K rfl (bA (U9 (i:=3) nd rfl (Or.inl rfl)) (bA (U9 (i:=4) nd rfl (Or.inl rfl)) lA))) (lC (C5 (E2 K (qv 2) (λ_=>rfl)) (A8 (O1 (M5 K PySem.F.plainAttrs_list PySem.F.slot_list_append PySem.F.type_list_append T9 (qv 2) (A0 D1 A1)))) C7)
  (lC (C5 (E2 K (qv 1) (λ_=>rfl)) (A8 (O1 (M5 K PySem.F.plainAttrs_list PySem.F.slot_list_append PySem.F.type_list_append T9 (qv 2) (A0 (A3 (E3 K) (qv 3) D1) A1)))) C7)
  (A8 (O1 (M5 K PySem.F.plainAttrs_list PySem.F.slot_list_append PySem.F.type_list_append T9 (qv 2) (A0 (qv 4) A1)))))))
  (A5 (C5 (E2 K (qv 1) (λ_=>rfl)) (A8 (B7 (A3 (E3 K) (A3 (E3 K) (O0 (A0 D1 A1)) (qv 2)) (O0 (A0 D1 A1))))) C7)
  (A8 (B7 (A3 (E3 K) (A3 (E3 K) (O0 (A0 D1 A1)) (qv 2)) (O0 (A0 D1 A1))))))))) ?_
 refine⟨_,rfl,J5 rep.ty (R8 _ t) ⟨zero_le _,λpl hpl=>?_⟩⟩;have s1:=C3 hpl (.lst []);have hp1:upd H pl (.lst []) pl=some (.lst []):=A6;show aH _ _ _ _ (upd H pl (.lst []));generalize upd H pl (.lst [])=H1 at s1 hp1 ⊢;refine⟨_,rfl,H0,t,v,rfl,smE.trans s1,rep0,ok,!1,λr H2 ts s2 hr2 pa=>?_⟩;have hp2:=s2 _ _ hp1;have hrp:∀i,i<ts.length->r≠pl:=λi hi e=>by
  rw[e,hp2]at hr2;cases hr2;cases hi
 refine⟨r,rfl,⟨_,SqL.of hr2⟩,aW (gC (xs:=ts)) (λi σ H'=>∃(x3 x4:Option V)(xs:List V),σ=[some v,some (.bl (P5 t)),some (.ref pl),x3,x4]/\Same H H'/\TupsStay H2 H'/\H' r=some (.lst ts)/\H' pl=some (.lst xs)/\Its H0 xs (F0 (P5 t) ((E1 t).take i) true)/\xs.length<=3*i)
  ⟨_,_,[],rfl,s1.trans s2,λ_ _ z=>z,hr2,hp2,.nil,zero_le _⟩ (λi σ H' hi p=>?_) (λi x σ H' H3 hi p y=>?_) (fun σ H' p=>?_)⟩
 ·obtain⟨_,_,_,_,_,_,hr',_⟩:=p
  exact SqL.of hr'
 ·obtain⟨x3,x4,xs,rfl,sm,tst,hr',hp',its,hxl⟩:=p
  obtain⟨rfl,hx⟩:=y;have hrp:=hrp i hi;obtain⟨c,hc,p0,y0,rfl,hp0,rc⟩:=vB pa i x hx;have htl:=pa.len;refine⟨p0,_,rfl,SqT.of (tst _ _ hp0),rfl,_,_,rfl,_,_,rfl,rfl,?_⟩;have step:∀{H4:Hp}{ys:List V}{z:V}{Q':Hp->Prop},Same H H4->TupsStay H2 H4->H4 r=some (.lst ts)->H4 pl=some (.lst ys)->ys.length<100000->
    (Same H (upd H4 pl (.lst (ys++[z])))->TupsStay H2 (upd H4 pl (.lst (ys++[z])))->upd H4 pl (.lst (ys++[z])) r=some (.lst ts)->upd H4 pl (.lst (ys++[z])) pl=some (.lst (ys++[z]))->Q' (upd H4 pl (.lst (ys++[z]))))->fB (.ref pl) [z] H4 (λ_ H5=>Q' H5):=λh1 h2 h3 h4 h5 k=>
   ⟨pl,_,_,rfl,rfl,h4,J7 _ (!1),k (h1.put hpl) (h2.trans (TupsStay.lst h4)) (J6 hrp h3) A6⟩
  refine⟨fun σ H4=>∃ys:List V,σ=[some v,some (.bl (P5 t)),some (.ref pl),some (.str c.1),some y0]/\Same H H4/\TupsStay H2 H4/\H4 r=some (.lst ts)/\H4 pl=some (.lst ys)/\Its H0 ys (F0 (P5 t) ((E1 t).take i) true++(if(true&&((E1 t).take i).isEmpty)=true then[]else[.word ", "]))/\ys.length<=3*i+1,?_,?_⟩
  ·refine⟨_,rfl,!xs.isEmpty,.inl ⟨xs,SqL.of hp',rfl⟩,?_⟩
   rw[its.empty,GK];cases he:((E1 t).take i).isEmpty with
   |true=>
    refine B5 ⟨xs,rfl,sm,tst,hr',hp',?_,!1⟩;show Its H0 xs (F0 (P5 t) ((E1 t).take i) true++[]);rw[append_nil];exact its
   |false=>
    refine D0 ⟨_,rfl,.inl ⟨rfl,_,SqL.of hp'⟩,step sm tst hr' hp' (!1) λa1 a2 a3 a4=>⟨_,rfl,a1,a2,a3,a4,?_,by rw[length_append];show xs.length+1<=_;omega⟩⟩;exact Its.app its (wd ", ")
  ·rintro _ H4 ⟨ys,rfl,sm4,tst4,hr4,hp4,its4,hl4⟩
   refine⟨fun σ H4=>∃ys:List V,σ=[some v,some (.bl (P5 t)),some (.ref pl),some (.str c.1),some y0]/\Same H H4/\TupsStay H2 H4/\H4 r=some (.lst ts)/\H4 pl=some (.lst ys)/\Its H0 ys ((F0 (P5 t) ((E1 t).take i) true++(if(true&&((E1 t).take i).isEmpty)=true then[]else[.word ", "]))++(if P5 t then[.word (c.1++": ")]else[]))/\ys.length<=3*i+2,?_,?_⟩
   ·refine⟨_,rfl,_,rfl,?_⟩
    cases hd:P5 t with
    |false=>
     rw[hd]at its4;exact B5 ⟨ys,rfl,sm4,tst4,hr4,hp4,by rw[show(if false=true then[Th.word (c.1++": ")]else[])=[]from rfl,append_nil];exact its4,!1⟩
    |true=>
     have hcl:c.1.length<=1000:=by
      rcases hh with⟨l,rfl⟩|⟨l,rfl⟩
      ·cases hd
      ·have hm:=mem_of_getElem? hc
       exact oI (Y1 ok.2.2 c ((hV ok.2.1).mem_iff.mp hm)).1
     rw[hd]at its4;refine D0 ⟨_,rfl,.inl ⟨rfl,_,SqL.of hp4⟩,_,rfl,S0 (le_trans (show c.1.length+(": " : Str).length<=1002 from Nat.add_le_add hcl (show(": " : Str).length<=2 by decide +kernel)) (!3)) (step sm4 tst4 hr4 hp4 (!1) λa1 a2 a3 a4=>⟨_,rfl,a1,a2,a3,a4,?_,by rw[length_append];show ys.length+1<=_;omega⟩)⟩;exact Its.app its4 (wd (c.1++": "))
   ·rintro _ H5 ⟨zs,rfl,sm5,tst5,hr5,hp5,its5,hl5⟩
    refine⟨_,rfl,.inl ⟨rfl,_,SqL.of hp5⟩,_,rfl,step sm5 tst5 hr5 hp5 (!1) λa1 a2 a3 a4=>⟨_,_,_,rfl,a1,a2,a3,a4,?_,by rw[length_append];show zs.length+1<=_;omega⟩⟩;rw[take_succ,hc,show(some c).toList=[c]from rfl,xJ];have:=Its.app its5 (.cons rc .nil);simp only[append_assoc]at this ⊢;exact this
 ·obtain⟨x3,x4,xs,rfl,sm,tst,hr',hp',its,hxl⟩:=p
  have htl:=pa.len;rw[take_of_length_le (!1)]at its;refine⟨_,rfl,_,rfl,?_⟩;have fin:∀(x y:Str),S8 t=.word x::(F0 (P5 t) (E1 t) true++[.word y])->∀a,H' a=none->∀b,upd H' a (.lst [.str x]) b=none->∀e,upd (upd H' a (.lst [.str x])) b (.lst ([.str x]++xs)) e=none->∀r',upd (upd (upd H' a (.lst [.str x])) b (.lst ([.str x]++xs))) e (.lst [.str y]) r'=none->Q (.ref r') (upd (upd (upd (upd H' a (.lst [.str x])) b (.lst ([.str x]++xs))) e (.lst [.str y])) r' (.lst (([.str x]++xs)++[.str y]))):=λx y es a ha b hb e he r' hr''=>by
   refine q r' _ _ (sm.trans ((C3 ha _).trans ((C3 hb _).trans ((C3 he _).trans (C3 hr'' _))))) A6 ?_;rw[es];exact Its.app (Its.app (wd x) its) (wd y)
  have go:∀(x y:Str),S8 t=.word x::(F0 (P5 t) (E1 t) true++[.word y])->iP (T7 (R9 K) (T7 (R9 K) (eX (aK (tC (.str x)) Y5)) (eJ 2)) (eX (aK (tC (.str y)) Y5))) {nx:=λ_ H'=>Q .non H',rt:=Q} [some v,some (.bl (P5 t)),some (.ref pl),x3,x4] H':=λx y es=>by
   refine⟨(by show 1<=sizeLine;decide),λa ha=>⟨_,rfl,uB A6 (J6 (E6 hp' ha) hp') (le_of_lt (J7 _ (by show 1+xs.length<=_;omega))) λb hb=>⟨(by show 1<=sizeLine;decide),λe he=>?_⟩⟩⟩;refine uB (J6 (E6 A6 he) A6) A6 (le_of_lt (J7 _ (by rw[length_append];show 1+xs.length+1<=_;omega))) λr' hr''=>?_
   exact fin x y es a ha b hb e he r' hr''
  rcases hh with⟨l,rfl⟩|⟨l,rfl⟩
  ·exact B5 (go "[" "]" rfl)
  ·exact D0 (go "{" "}" rfl)
end
end K03
namespace K03
open PySem L2 Rg
section
variable{P:Program}{w:World}{K:Frag}{mg:Str->Option Value}{base:Heap}{f:Addr}{fd:FuncData}
def zB:Sp:=λvs H Q _=>∃(t:Th)(v:V),vs=[v]/\Rep H t v/\t.Gn/\t.size<=1000/\(B0 t).length<=100000/\∀H',Same H H'->Q (.str (sL (B0 t))) H'
def Q8(ps:List Str):List Nat:=ps.flatMap λp=>p.cps.toList
theorem Ic(ps:List Str)(p:Str):Q8 (ps++[p])=Q8 ps++p.cps.toList:=by unfold Q8;rw[flatMap_append];simp
theorem zC:∀ps:List Str,(ps.map (·.length)).sum=(Q8 ps).length
 |[]=>rfl
 |p::ps=>by
  show p.length+(ps.map (·.length)).sum=(p.cps.toList++Q8 ps).length;rw[zC ps,length_append,C2]
theorem zD:∀{ps:List Str},(∀p∈ps,1<=p.length)->ps.length<=(Q8 ps).length
 |[],_=>zero_le _
 |p::ps,h=>by
  have h1:=h p mem_cons_self;have h2:=zD λq hq=>h q (mem_cons_of_mem _ hq)
  show ps.length+1<=(p.cps.toList++Q8 ps).length;rw[length_append,←C2];omega
theorem Id(ps:List Str){S:List Nat}(h:Q8 ps=S):Txt.join "" ps=sL S:=by
 refine gQ ?_;show(Builtin.Str.glued "" ps).cps.toList=S;rw[StrLaws.glued_eq_join,xK];exact h
theorem zE{b:Bool}:∀{cs:List (Str×Th)}{f:Bool},(∀p∈cs,p.2.size<=1000)->∀c∈F0 b cs f,c.size<=1000
 |[],_,_,c,hc=>by cases hc
 |p::r,f,h,c,hc=>by
  have hc:c∈(if f then[]else[.word ", "])++((if b then[.word (p.1++": ")]else[])++(p.2::F0 b r false)):=hc;rcases mem_append.mp hc with hc|hc
  ·cases f with
   |true=>cases hc
   |false=>rw[mem_singleton.mp hc];show 1<=1000;decide
  ·rcases mem_append.mp hc with hc|hc
   ·cases b with
    |false=>cases hc
    |true=>rw[mem_singleton.mp hc];show 1<=1000;decide
   ·rcases mem_cons.mp hc with rfl|hc
    ·exact h p mem_cons_self
    ·exact zE (λq hq=>h q (mem_cons_of_mem _ hq)) c hc
theorem zF{t:Th}(h:t.Gn):∀p∈E1 t,p.2.size<=t.size:=λp hp=>by
 have:=mU h;have h2:∀(l:List (Str×Th)),p∈l->p.2.size<=(l.map λp=>p.2.size).sum:=λl=>by
  induction l with
  |nil=>intro h;cases h
  |cons q l ih=>
   intro h;rw[map_cons,sum_cons];rcases mem_cons.mp h with rfl|h
   ·omega
   ·have:=ih h
    omega
 have:=h2 _ hp;omega
theorem Ie{t:Th}(h:t.Gn)(hz:t.size<=1000):∀c∈S8 t,c.size<=1000:=by
 have key:∀{b:Bool}{x y:Str}{cs:List (Str×Th)},(∀p∈cs,p.2.size<=1000)->∀c∈Th.word x::(F0 b cs true++[.word y]),c.size<=1000:=λhp c hc=>by
  rcases mem_cons.mp hc with rfl|hc
  ·show 1<=1000;decide
  ·rcases mem_append.mp hc with hc|hc
   ·exact zE hp c hc
   ·rw[mem_singleton.mp hc]
    show 1<=1000;decide
 cases t with
 |num i=>intro c hc;rw[mem_singleton.mp hc];exact hz
 |word x=>intro c hc;rw[mem_singleton.mp hc];exact hz
 |row l=>exact key λp hp=>le_trans (zF h p hp) hz
 |dic l=>exact key λp hp=>le_trans (zF h p hp) hz
theorem zG:FnScope ["thing","pieces","waiting","part"] ["thing"] (B4 nI):=by walk_at"sc"
theorem Ig(F:Fun K "thing_text" "thing_text" nI f fd)(B:Blt mg)(h_spread:C4 P w K mg base "spread" 6 ["holder"] yZ):FnOk P w K mg base B9 7 f fd ["thing"] zB:=by
 refine F.ok zG (by walk_at"ln") (λcdv A outer s H vs Q E hr h=>?_);obtain⟨t,v,rfl,rep,ok,hz,hln,q⟩:=h;have hu:=F6 hr;have nd:=zG.nd;refine F8 (A5 (C8 (i:=1) nd rfl (Or.inl rfl) (O0 A1))
  (A5 (C8 (i:=2) nd rfl (Or.inl rfl) (O0 (A0 (qv 0) A1)))
  (A5 (cY PassesOwn.never (E2 K (qv 2) (λ_=>rfl)) (A5 (C8 (i:=3) nd rfl (Or.inl rfl) (uL K PySem.F.plainAttrs_list PySem.F.slot_list_pop PySem.F.type_list_pop uP (qv 2)))
  (A8 (C5 (E2 K (F4 (O3 K) rfl B.isi boot_isinstance (A0 (qv 3) (A0 (N9 (v:=.ty "str") rfl B.str boot_str rfl) A1))) (λ_=>rfl)) (A8 (O1 (M5 K PySem.F.plainAttrs_list PySem.F.slot_list_append PySem.F.type_list_append T9 (qv 1) (A0 (qv 3) A1)))) (A8 (C5 (E2 K (F4 (O3 K) rfl B.isi boot_isinstance (A0 (qv 3) (A0 (N9 (v:=.ty "int") rfl B.int boot_int rfl) A1))) (λ_=>rfl)) (A8 (O1 (M5 K PySem.F.plainAttrs_list PySem.F.slot_list_append PySem.F.type_list_append T9 (qv 1) (A0 (Z5 vF rfl B.str boot_str (A0 (qv 3) A1)) A1)))) (A8 (O1 (M5 K PySem.F.plainAttrs_list PySem.F.slot_list_extend PySem.F.type_list_extend uQ (qv 2) (A0 (uS rfl K rfl B.list rfl B.rev (C1 h_spread hr (!3) rfl (A0 (qv 3) A1))) A1))))))))))
  (A8 (B7 (M5 K PySem.F.plainAttrs_str PySem.F.slot_str_join PySem.F.type_str_join (lK K) D1 (A0 (qv 1) A1))))))) ?_
 refine⟨zero_le _,λpa hpa=>?_⟩;refine⟨_,rfl,(by show 1<=sizeLine;decide),λwt hwt=>?_⟩;have hwp:wt≠pa:=nx hwt;have hwt0:H wt=none:=nn hwt;refine⟨λm σ H'=>∃(x3:Option V)(ws:List V)(ps:List Str)(cs:List Th),σ=[some v,some (.ref pa),some (.ref wt),x3]/\Same H H'/\H' pa=some (.lst (ps.map V.str))/\H' wt=some (.lst ws)/\Its H ws cs/\(∀c∈cs,PcG c/\c.size<=1000)/\(∀p∈ps,1<=p.length)/\m=G6 cs/\Q8 ps++G7 cs.reverse=B0 t,
  ⟨_,none,[v],[],[t],rfl,((Same.refl H).put hpa).put hwt0,J6 (Ne.symm hwp) A6,A6,.cons rep .nil,λc hc=>by rw[mem_singleton.mp hc];exact⟨.inl ok,hz⟩,λp hp=>(by cases hp),rfl,?_⟩,?_⟩
 ·show[]++(B0 t++[])=B0 t
  simp
 rintro m _ H' ⟨x3,ws,ps,cs,rfl,sm,hp,hw,its,okc,okp,rfl,htx⟩;have hlen:=congrArg length htx;rw[length_append]at hlen;have hpl:=zD okp;have hcl:=iA (cs:=cs.reverse) λc hc=>(okc c (List.mem_reverse.mp hc)).1
 rw[length_reverse]at hcl;have hwl:ws.length=cs.length:=Paired.length its;refine⟨.ref wt,rfl,!ws.isEmpty,.inl ⟨ws,SqL.of hw,rfl⟩,?_⟩;by_cases hne:ws=[]
 ·subst hne
  have ecs:cs=[]:=List.eq_nil_of_length_eq_zero hwl.symm;subst ecs;refine B5 ⟨rfl,_,rfl,"",pa,ps,rfl,rfl,SqL.of hp,!0,by rw[zC];omega,?_⟩;rw[Id ps (show Q8 ps=B0 t by rw[←htx];simp[G7])];exact q H' sm
 ·obtain⟨wr,x,cr,c,rfl,rfl,par,rc⟩:=kA its hne
  have rc:Rep H c x:=rc;have ebool:(!(wr++[x]).isEmpty)=true:=by simp
  rw[ebool];have okc2:=okc c (!2);rw[reverse_append,List.reverse_singleton,List.singleton_append,V7]at htx;refine D0 ⟨fun σ H2=>∃m',m'<G6 (cr++[c])/\∃(x3:Option V)(ws:List V)(ps:List Str)(cs:List Th),σ=[some v,some (.ref pa),some (.ref wt),x3]/\Same H H2/\H2 pa=some (.lst (ps.map V.str))/\H2 wt=some (.lst ws)/\Its H ws cs/\(∀c∈cs,PcG c/\c.size<=1000)/\(∀p∈ps,1<=p.length)/\m'=G6 cs/\Q8 ps++G7 cs.reverse=B0 t,λ_ _ z=>z,?_⟩;refine⟨.ref wt,rfl,.inl ⟨rfl,_,SqL.of hw⟩,wt,_,x,rfl,rfl,hw,!2,?_⟩;rw[dropLast_concat];have hp1:upd H' wt (.lst wr) pa=some (.lst (ps.map V.str)):=J6 (Ne.symm hwp) hp;have hw1:upd H' wt (.lst wr) wt=some (.lst wr):=A6;have sm1:Same H (upd H' wt (.lst wr)):=sm.put hwt0;generalize upd H' wt (.lst wr)=H1 at hp1 hw1 sm1 ⊢;have rep1:=rc.mono sm1;have put:∀(y:Str),y.cps.toList=B0 c->fB (.ref pa) [.str y] H1 (λ_ H2=>∃m',m'<G6 (cr++[c])/\∃(x3:Option V)(ws:List V)(ps:List Str)(cs:List Th),[some v,some (.ref pa),some (.ref wt),some x]=[some v,some (.ref pa),some (.ref wt),x3]/\Same H H2/\H2 pa=some (.lst (ps.map V.str))/\H2 wt=some (.lst ws)/\Its H ws cs/\(∀c∈cs,PcG c/\c.size<=1000)/\(∀p∈ps,1<=p.length)/\m'=G6 cs/\Q8 ps++G7 cs.reverse=B0 t):=λy ey=>by
   have hy:1<=y.length:=by rw[C2,ey];exact okc2.1.pos
   refine⟨pa,_,_,rfl,rfl,hp1,by rw[length_map];exact J7 _ (!1),G6 cr,?_,_,wr,ps++[y],cr,rfl,sm1.put hpa,by rw[A6,map_append];rfl,J6 hwp hw1,par,λd hd=>okc d (mem_append_left _ hd),λp hp=>?_,rfl,?_⟩
   ·rw[Z9]
    have:1<=c.wt:=by cases c<;>first|exact le_refl _|exact Nat.le_add_left 1 _
    show _<_+(c.wt+0);omega
   ·rcases mem_append.mp hp with hp|hp
    ·exact okp p hp
    ·rw[mem_singleton.mp hp];exact hy
   ·rw[Ic,ey,append_assoc]
    exact htx
  refine⟨_,rfl,J5 rep1.ty (gK _ c) ⟨_,rfl,?_⟩⟩;have rdO:((∃l,c=.row l)∨∃l,c=.dic l)->c.Gn:=λhh=>by
   rcases okc2.1 with hrd|⟨y,e,_⟩
   ·exact hrd
   ·rcases hh with⟨l,rfl⟩|⟨l,rfl⟩<;>cases e
  have ext:((∃l,c=.row l)∨∃l,c=.dic l)->∀(r:Addr)(H2:Hp)(xs:List V),c.Gn->Same H1 H2->H2 r=some (.lst xs)->Its H xs (S8 c)->∀r2,H2 r2=none->jG (.ref wt) [.ref r2] (upd H2 r2 (.lst xs.reverse)) (λ_ H2=>∃m',m'<G6 (cr++[c])/\∃(x3:Option V)(ws:List V)(ps:List Str)(cs:List Th),[some v,some (.ref pa),some (.ref wt),some x]=[some v,some (.ref pa),some (.ref wt),x3]/\Same H H2/\H2 pa=some (.lst (ps.map V.str))/\H2 wt=some (.lst ws)/\Its H ws cs/\(∀c∈cs,PcG c/\c.size<=1000)/\(∀p∈ps,1<=p.length)/\m'=G6 cs/\Q8 ps++G7 cs.reverse=B0 t):=λhh r H2 xs hrd s2 hr2 i2 r2 hr2'=>by
   have hwr:wt≠r2:=E6 (s2 _ _ hw1) hr2';have hpr:pa≠r2:=E6 (s2 _ _ hp1) hr2';have hH2:H r2=none:=(sm1.trans s2).free hr2';have htl:xs.length=(S8 c).length:=Paired.length i2;have hsl:=iA (xQ hrd);rw[xO hrd]at hsl;have hcrl:cr.length<=(G7 cr.reverse).length:=by
    have:=iA (cs:=cr.reverse) λd hd=>(okc d (mem_append_left _ (List.mem_reverse.mp hd))).1
    rwa [length_reverse]at this
   have hlr:wr.length=cr.length:=Paired.length par;have hlen2:=congrArg length htx;rw[length_append,length_append]at hlen2;refine⟨wt,r2,wr,xs.reverse,rfl,rfl,J6 hwr (s2 _ _ hw1),A6,by rw[length_reverse];exact le_of_lt (J7 _ (!1)),G6 (cr++(S8 c).reverse),?_,_,wr++xs.reverse,ps,cr++(S8 c).reverse,rfl,((sm1.trans s2).put hH2).put hwt0,J6 (Ne.symm hwp) (J6 hpr (s2 _ _ hp1)),A6,Its.app par (Its.rev i2),λd hd=>?_,okp,rfl,?_⟩
   ·rw[Z9,Z9,GM]
    have:=GN hrd hh;show _<_+(c.wt+0);omega
   ·rcases mem_append.mp hd with hd|hd
    ·exact okc d (mem_append_left _ hd)
    ·have hd:=List.mem_reverse.mp hd
     exact⟨xQ hrd d hd,Ie hrd okc2.2 d hd⟩
   ·rw[reverse_append,reverse_reverse,dQ,xO hrd]
    exact htx
  cases c with
  |word y=>
   obtain rfl:x=.str y:=rc;exact D0 ⟨_,rfl,.inl ⟨rfl,_,SqL.of hp1⟩,_,rfl,put y rfl⟩
  |num i=>
   obtain rfl:x=.int i:=rc;have hi:i.natAbs<10^60:=by
    rcases okc2.1 with hrd|⟨y,e,_⟩
    ·exact hrd
    ·cases e
   exact B5 ⟨_,rfl,J5 rep1.ty (lJ _ _) ⟨_,rfl,D0 ⟨_,rfl,.inl ⟨rfl,_,SqL.of hp1⟩,_,rfl,i,rfl,lR hi,put (nT i) rfl⟩⟩⟩
  |row l=>
   refine B5 ⟨_,rfl,J5 rep1.ty (lJ _ _) ⟨_,rfl,B5 ⟨_,rfl,.inl ⟨rfl,_,SqL.of hw1⟩,_,rfl,H,_,x,rfl,sm1,rc,rdO (.inl ⟨l,rfl⟩),okc2.2,.inl ⟨l,rfl⟩,λr H2 xs s2 hr2 i2=>⟨r,xs,rfl,SqL.of hr2,λr2 hr2'=>ext (.inl ⟨l,rfl⟩) r H2 xs (rdO (.inl ⟨l,rfl⟩)) s2 hr2 i2 r2 hr2'⟩⟩⟩⟩
  |dic l=>
   refine B5 ⟨_,rfl,J5 rep1.ty (lJ _ _) ⟨_,rfl,B5 ⟨_,rfl,.inl ⟨rfl,_,SqL.of hw1⟩,_,rfl,H,_,x,rfl,sm1,rc,rdO (.inr ⟨l,rfl⟩),okc2.2,.inr ⟨l,rfl⟩,λr H2 xs s2 hr2 i2=>⟨r,xs,rfl,SqL.of hr2,λr2 hr2'=>ext (.inr ⟨l,rfl⟩) r H2 xs (rdO (.inr ⟨l,rfl⟩)) s2 hr2 i2 r2 hr2'⟩⟩⟩⟩
end
end K03
namespace K03
open PySem L2 Rg
section
variable{P:Program}{w:World}{K:Frag}{mg:Str->Option Value}{base:Heap}{f:Addr}{fd:FuncData}
theorem zH{C CB G0 fT fR fC:Addr}{dT dR dC:FuncData}(B:Blt mg)(G:Glo mg)(h_BadThing:HasN P w K mg base "BadThing" CB G0)(h_passes:P9 P w K mg base C "passes" 1 ["self","piece"] (bV C))(h_must:M9 P w K mg base "must_pass" 2 ["reader","piece"] (dY C CB))(h_field:M9 P w K mg base "read_field" 3 ["reader","last"] (oG C CB))(h_atom:M9 P w K mg base "read_atom" 2 ["reader"] (oF C CB))
  (FT:Fun K "read_thing" "read_thing" dU fT dT) (bT:Binds K dT ["reader","level"] []) (kT:keepIn K (.ref fT)=true) (mT:mg "read_thing"=some (.ref fT))
  (FR:Fun K "read_row" "read_row" iE fR dR) (bR:Binds K dR ["reader","level"] []) (kR:keepIn K (.ref fR)=true) (mR:mg "read_row"=some (.ref fR))
  (FC:Fun K "read_record" "read_record" iF fC dC) (bC:Binds K dC ["reader","level"] []) (kC:keepIn K (.ref fC)=true) (mC:mg "read_record"=some (.ref fC)):
  ∀d:Nat,d<=20->FnOk P w K mg base (F9 P w) (2*d+6) fT dT ["reader","level"] (T2 C CB (21-(d:Nat)) (B3 d))
 |0,_=>HN FT G h_BadThing
 |d+1,h=>by
  have ih:=zH B G h_BadThing h_passes h_must h_field h_atom FT bT kT mT FR bR kR mR FC bC kC mC d (!1);exact HP (!1) FT B G h_BadThing h_passes ⟨fR,dR,HJ (!1) FR B h_BadThing h_passes h_must ⟨fT,dT,ih,bT,kT,mT⟩,bR,kR,mR⟩ ⟨fC,dC,HM (!1) FC B h_BadThing h_passes h_must h_field ⟨fT,dT,ih,bT,kT,mT⟩,bC,kC,mC⟩ h_atom
def zI:Sp:=λvs H Q _=>∃(z:Str)(t0:Th),vs=[.str z]/\z.cps.toList=t0.tx/\t0.Wf/\t0.size<=100/\t0.dp<=20/\Asc z/\z.length<=20000/\∀(v:V) H',Same H H'->Rep (C6 H H') t0 v->Q v H'
theorem zJ:FnScope ["text","reader","thing"] ["text"] (B4 nQ):=by walk_at"sc"
theorem Ih{C CB G0:Addr}(F:Fun K "thing_of" "thing_of" nQ f fd)(B:Blt mg)(G:Glo mg)(h_BadThing:HasN P w K mg base "BadThing" CB G0)(h_Reader:lG P w K mg base "Reader" C 1 ["self","text"] (yD C))(h_Reader_ended:P9 P w K mg base C "ended" 1 ["self"] (yI C))(h_read_thing:M9 P w K mg base "read_thing" 46 ["reader","level"] (T2 C CB (21-(20:Nat)) (B3 20)))(h_size_of:C4 P w K mg base "size_of" 7 ["thing"] yY):FnOk P w K mg base (F9 P w) 47 f fd ["text"] zI:=by
 refine Fun.okx F zJ (by walk_at"ln") (λcdv A outer s H vs Q E hr h=>?_);obtain⟨z,t0,rfl,ez,wf0,sz0,dp0,asc,hln,q1⟩:=h;have hu:=F6 hr;have nd:=zJ.nd;have e0:B3 20 z.cps.toList=some (t0,[]):=(Gf 20 z.cps.toList t0).mpr ⟨ez,wf0,dp0⟩;refine F8 (A5 (C8 (i:=1) nd rfl (Or.inl rfl) (Ff h_Reader hr (!3) rfl (A0 (qv 0) A1)))
  (A5 (C8 (i:=2) nd rfl (Or.inl rfl) (Q4 h_read_thing Q2 hr (!3) rfl (A0 (qv 1) (A0 A2 A1))))
  (A5 (C5 (P8 (E2 K (Fe h_Reader_ended hr (!3) (qv 1)) (λ_=>rfl))) (A8 (X1 h_BadThing hr rfl (A0 D1 A1))) C7)
  (A5 (C5 (J1 gI (C1 h_size_of hr (!3) rfl (A0 (qv 2) A1)) (dA rfl G.LARGEST) rfl) (A8 (X1 h_BadThing hr rfl (A0 D1 A1))) C7)
  (A8 (B7 (qv 2))))))) ?_
 refine⟨_,rfl,λx dx nx' ndx hne=>⟨x,dx,z,rfl,A6,λH1 b1 hx1=>⟨rfl,?_⟩⟩⟩;have S1:Same H H1:=λb o e=>by
  have hb:b≠x:=λw=>by rw[w,nx']at e;cases e
  have hb2:b≠dx:=λw=>by rw[w,ndx]at e;cases e
  rw[b1 b hb,A9 hb,A9 hb2];exact e
 have up:∀{H2:Hp},Same (E8 H1 x) H2->Same H H2:=λs b o e=>by
  have hb:b≠x:=λw=>by rw[w,nx']at e;cases e
  exact s b o (by rw[K2 hb];exact S1 b o e)
 refine⟨_,rfl,x,dx,z,0,rfl,⟨hx1,zero_le _,!1,asc⟩,λh0 H2 s2=>?_,λt r h v p' H2 s2 rd2 hr2 rep2=>?_⟩
 ·rw[show z.cps.toList.drop 0=z.cps.toList from rfl,e0]at h0
  cases h0
 have h:B3 20 z.cps.toList=some (t,r):=h;rw[e0]at h;cases h;refine⟨_,rfl,x,dx,_,rfl,rd2.at_,rfl,x,dx,z,p',rfl,rd2.at_,rd2.ln,⟨_,rfl,?_⟩⟩;have hp2:=rd2.pl;have hp:p'=z.length:=by
  have:=congrArg length hr2;rw[length_drop,←C2]at this;have:z.length-p'=0:=this;omega
 rw[decide_eq_true hp];have hgn:=dP t0 wf0 sz0;refine B5 ⟨_,rfl,t0,v,rfl,rep2.mono V3,hgn,!1,λH3 s3=>⟨_,_,rfl,rfl,_,rfl,?_⟩⟩;have S3:=(up s2).trans s3;exact P0 (decide_eq_false (!1)) ⟨_,rfl,q1 v H3 S3 ((rep2.mono (S7 s3)).mono (O5 (Dom.of S1)))⟩
end
end K03
namespace K03
open PySem L2 Rg
section
variable{P:Program}{w:World}{K:Frag}{mg:Str->Option Value}{base:Heap}{f:Addr}{fd:FuncData}
def B2(n k:Int):Int:=(n % 1000000007+7*k+1)*48271 % 2147483647*((n % 1000000007+7*k+1)*48271 % 2147483647 % 1009+k+3) % 998244353
theorem M6(n k:Int):0<=B2 n k:=Int.emod_nonneg _ (!3)
def bW:Sp:=λvs H Q _=>∃n k:Int,vs=[.int n,.int k]/\0<=k/\k<=1000/\Q (.int (B2 n k)) H
theorem zK:FnScope ["_law_number_here","_law_k","_law_once"] ["_law_number_here","_law_k"] (B4 nV):=by walk_at"sc"
theorem Ii(F:Fun K "_law_mixed" "_law_mixed" nV f fd):FnOk P w K mg base B9 1 f fd ["_law_number_here","_law_k"] bW:=by
 refine F.ok zK (by walk_at"ln") (λcdv A outer s H vs Q E hr h=>?_);obtain⟨n,k,rfl,hk0,hk1,q⟩:=h;have nd:=zK.nd;refine F8 (A5 (C8 (i:=2) nd rfl (Or.inl rfl) (A3 G3 (A3 lD (A3 (E3 K) (A3 (E3 K) (A3 G3 (qv 0) A2) (A3 lD A2 (qv 1))) A2) A2) A2))
  (A8 (B7 (A3 G3 (A3 lD (qv 2) (A3 (E3 K) (A3 (E3 K) (A3 G3 (qv 2) A2) (qv 1)) A2)) A2)))) ?_
 unfold B2 at q;refine⟨_,rfl,_,_,rfl,rfl,(by show(0:Int)<1000000007;decide),_,rfl,_,_,rfl,rfl,.inl ⟨!3,!3⟩,L0 (L0 ⟨_,_,rfl,rfl,.inr ⟨!3,!3⟩,_,_,rfl,rfl,(by show(0:Int)<2147483647;decide),?_⟩)⟩;generalize (n % 1000000007+7*k+1)*48271=z at q ⊢;refine⟨_,rfl,_,rfl,_,_,rfl,rfl,(by show(0:Int)<1009;decide),_,rfl,L0 (L0 ⟨_,_,rfl,rfl,.inl ⟨!1,!1⟩,_,_,rfl,rfl,(by show(0:Int)<998244353;decide),?_⟩)⟩;exact q
theorem zL(c:Nat):∀(k:Nat)(acc:Array Nat),((replicate k #[c]).foldl (·++·) acc).toList=acc.toList++replicate k c
 |0,acc=>by simp
 |k+1,acc=>by
  rw[replicate_succ,List.foldl_cons,zL c k,Array.toList_append,append_assoc,replicate_succ];rfl
theorem Ij{c:Nat}{k:Nat}(hk:k<=6000):MulOk ⟨#[c]⟩ (k:Int)/\(Txt.mul ⟨#[c]⟩ (k:Int)).cps.toList=replicate k c:=by
 have hl:(⟨#[c]⟩:Str).length=1:=rfl;refine⟨⟨by simp;omega,λh1 _ h2=>?_,λh1 _=>?_⟩,?_⟩
 ·rw[hl]at h2
  have h3:(1:Int)<=(2^63-1) / (k:Int):=by
   rw[Int.le_ediv_iff_mul_le (!1)];omega
  have:((1:Nat):Int)>(2^63-1) / (k:Int):=h2;omega
 ·rw[hl,Nat.one_mul,toNat_natCast]
  unfold Builtin.Str.tooLong;have:=J7 k (!1);exact decide_eq_false (!1)
 ·unfold Txt.mul
  by_cases h1:(k:Int)<1
  ·rw[if_pos h1,show k=0 by omega];rfl
  ·rw[if_neg h1]
   by_cases h2:((k:Int)==1||(⟨#[c]⟩:Str).length==0)=true
   ·rw[if_pos h2]
    rw[hl]at h2;have h3:(k:Int)=1:=by simpa using h2
    obtain rfl:k=1:=by omega
    rfl
   ·rw[if_neg h2,toNat_natCast]
    exact zL c k #[]
theorem mul_one{c:Nat}{k:Nat}(hk:k<=60):MulOk ⟨#[c]⟩ (k:Int)/\(Txt.mul ⟨#[c]⟩ (k:Int)).cps.toList=replicate k c:=Ij (!1)
theorem Ik{cs:List Nat}{z:Str}(e:z.cps.toList=cs)(h1:1<=cs.length)(h2:cs.length<=8)(h3:∀c∈cs,97<=c/\c<=122):Q7 z=true:=by
 unfold Q7;rw[C2,e,decide_eq_true h1,decide_eq_true h2];refine all_eq_true.mpr λc hc=>?_
 have:=h3 c hc;unfold bH;rw[decide_eq_true this.1,decide_eq_true this.2];rfl
theorem oM{c k:Nat}(hk:k<=60):(Txt.mul ⟨#[c]⟩ (k:Int)).length=k:=by rw[C2,(mul_one hk).2,length_replicate]
def iK(z:Str)(i:Int):Nat:=(M7 z.cps.toList i).getD 0
def J0(n:Int):Str:=Txt.mul ⟨#[iK "abz" (n / 64 % 3)]⟩ (n / 8 % (1+n % 8))++⟨#[iK "abcdefghijklmnopqrstuvwxyz" (n / 192 % 26)]⟩++Txt.mul ⟨#[iK "abz" (n / 64 % 3)]⟩ (1+n % 8-1-n / 8 % (1+n % 8))
theorem dI{i:Int}(h0:0<=i)(h1:i<26):∃c:Nat,M7 ("abcdefghijklmnopqrstuvwxyz" : Str).cps.toList i=some c/\97<=c/\c<=122:=by
 have hlb:(("abcdefghijklmnopqrstuvwxyz" : Str).cps.toList)=range' 97 26:=by decide +kernel
 obtain⟨c,ec,mc⟩:=uU (xs:=("abcdefghijklmnopqrstuvwxyz" : Str).cps.toList) h0 (by rw[hlb];show _<(26:Int);omega);rw[hlb,List.mem_range'_1]at mc;exact⟨c,ec,!1⟩
theorem Il{b c j i:Nat}(hb:97<=b/\b<=122)(hc:97<=c/\c<=122)(h:j+i<=7):Q7 (Txt.mul ⟨#[b]⟩ (j:Int)++⟨#[c]⟩++Txt.mul ⟨#[b]⟩ (i:Int))=true:=by
 refine Ik (cs:=replicate j b++[c]++replicate i b) (by rw[PyProof.Rows.cps_toList_append,PyProof.Rows.cps_toList_append,(mul_one (!1)).2,(mul_one (!1)).2]) ?_ ?_ λd hd=>?_
 ·simp;omega
 ·simp;omega
 ·rcases mem_append.mp hd with hd|hd
  ·rcases mem_append.mp hd with hd|hd
   ·rw[List.eq_of_mem_replicate hd];exact hb
   ·rw[mem_singleton.mp hd];exact hc
  ·rw[List.eq_of_mem_replicate hd];exact hb
theorem zM{n:Int}(h0:0<=n):∃k j i b c:Nat,1+n % 8=(k:Int)/\n / 8 % (k:Int)=(j:Int)/\(k:Int)-1-(j:Int)=(i:Int)/\j+1+i=k/\k<=8/\M7 ("abz" : Str).cps.toList (n / 64 % 3)=some b/\M7 ("abcdefghijklmnopqrstuvwxyz" : Str).cps.toList (n / 192 % 26)=some c/\(97<=b/\b<=122)/\(97<=c/\c<=122)/\J0 n=Txt.mul ⟨#[b]⟩ (j:Int)++⟨#[c]⟩++Txt.mul ⟨#[b]⟩ (i:Int):=by
 obtain⟨k,hk⟩:∃k:Nat,1+n % 8=(k:Int):=⟨(1+n % 8).toNat,!1⟩
 obtain⟨j,hj⟩:∃j:Nat,n / 8 % (1+n % 8)=(j:Int):=⟨(n / 8 % (1+n % 8)).toNat,by have:=Int.emod_nonneg (n / 8) (show(1+n % 8)≠0 by omega);omega⟩
 have hjk:j<k:=by have:=Int.emod_lt_of_pos (n / 8) (show 0<1+n % 8 by omega);omega
 have hk8:k<=8:=by omega
 rw[hk]at hj;have hb:(("abz" : Str).cps.toList)=[97,98,122]:=by decide +kernel
 obtain⟨b,eb,mb⟩:=uU (xs:=("abz" : Str).cps.toList) (i:=n / 64 % 3) (!1) (by rw[hb];show _<(3:Int);omega);obtain⟨c,ec,hc⟩:=dI (i:=n / 192 % 26) (!1) (!1);have hb':97<=b/\b<=122:=by
  rw[hb]at mb;simp only[mem_cons,not_mem_nil,or_false]at mb;omega
 obtain⟨i,hi⟩:∃i:Nat,(k:Int)-1-(j:Int)=(i:Int):=⟨k-1-j,!1⟩
 refine⟨k,j,i,b,c,hk,hj,hi,!1,hk8,eb,ec,hb',hc,?_⟩;unfold J0 iK;rw[eb,ec,hk,hj,hi];rfl
theorem aD{n:Int}(h0:0<=n):Q7 (J0 n)=true:=by
 obtain⟨k,j,i,b,c,hk,hj,hi,hji,hk8,eb,ec,hb,hc,e⟩:=zM h0;rw[e];exact Il hb hc (!1)
def bX:Sp:=λvs H Q _=>∃n:Int,vs=[.int n]/\0<=n/\Q (.str (J0 n)) H
theorem zN:FnScope ["_law_number_here","_law_letters","_law_size","_law_at","_law_base"] ["_law_number_here"] (B4 nX):=by walk_at"sc"
theorem Im(F:Fun K "_law_name" "_law_name" nX f fd)(B:Blt mg):FnOk P w K mg base B9 1 f fd ["_law_number_here"] bX:=by
 refine F.ok zN (by walk_at"ln") (λcdv A outer s H vs Q E hr h=>?_);obtain⟨n,rfl,h0,q⟩:=h;have hu:=F6 hr;have nd:=zN.nd;refine F8 (A5 (C8 (i:=1) nd rfl (Or.inl rfl) D1)
  (A5 (C8 (i:=2) nd rfl (Or.inl rfl) (A3 (E3 K) A2 (A3 G3 (qv 0) A2)))
  (A5 (C8 (i:=3) nd rfl (Or.inl rfl) (A3 G3 (A3 L1 (qv 0) A2) (qv 2)))
  (A5 (C8 (i:=4) nd rfl (Or.inl rfl) (R4 K hu D1 (A3 G3 (A3 L1 (qv 0) A2) A2) (λ_ _=>rfl)))
  (A8 (B7 (A3 (E3 K) (A3 (E3 K) (A3 lN (qv 4) (qv 3)) (R4 K hu (qv 1) (A3 G3 (A3 L1 (qv 0) A2) A2) (λ_ _=>rfl))) (A3 lN (qv 4) (A3 V0 (A3 V0 (qv 2) A2) (qv 3)))))))))) ?_
 refine⟨_,rfl,_,_,rfl,rfl,(by show(0:Int)<8;decide),L0 ⟨_,rfl,_,_,rfl,rfl,⟨!3,!3⟩,_,rfl,_,_,rfl,rfl,(by show(0:Int)<_;omega),?_⟩⟩;obtain⟨k,j,i,b,c,hk,hj,hi,hji,hk8,eb,ec,hb,hc,e⟩:=zM h0;rw[e]at q;rw[hk];dsimp only;rw[hj];refine⟨_,rfl,_,_,rfl,rfl,⟨!3,!3⟩,_,_,rfl,rfl,(by show(0:Int)<3;decide),kN (!0) eb ?_⟩;have hj60:j<=60:=by omega
 have hi60:i<=60:=by omega
 refine⟨_,rfl,_,rfl,_,_,rfl,rfl,(mul_one hj60).1,_,rfl,_,rfl,_,_,rfl,rfl,⟨!3,!3⟩,_,_,rfl,rfl,(by show(0:Int)<26;decide),kN (!0) ec (S0 (by rw[oM hj60];exact N8 (by show j+1<=1000;omega)) ⟨_,rfl,_,rfl,_,_,rfl,rfl,_,rfl,_,_,rfl,rfl,_,_,rfl,rfl,?_⟩)⟩;rw[hi];refine⟨(mul_one hi60).1,S0 (N8 ?_) q⟩;rw[C2,PyProof.Rows.cps_toList_append,length_append,(mul_one hj60).2,length_replicate,oM hi60];show j+1+i<=1000;omega
theorem zO:("9" : Str)=⟨#[57]⟩:=by decide +kernel
theorem Io:∀k<61,0<k->PySem.intText? (Txt.mul ("9" : Str) ((k:Nat):Int))=some ((10:Int)^k-1):=by decide +kernel
def N3(n c:Int):Int:=if n % 6=0 then n / 6 % 5-2 else if n % 6=1 then n / 6 % 2001-1000 else if n % 6=2 then c % 10^60 else if n % 6=3 then 0-c % 10^60 else if n / 720 % 2=0 then 10^(1+n / 6 % 60).toNat-1-n / 360 % 2 else 0-(10^(1+n / 6 % 60).toNat-1-n / 360 % 2)
theorem eA(n c:Int):(N3 n c).natAbs<10^60:=by
 have hc0:0<=c % 10^60:=Int.emod_nonneg _ (!3);have hc1:c % 10^60<10^60:=Int.emod_lt_of_pos _ (!3);have hp:∀k<61,0<k->(10:Int)<=10^k/\(10:Int)^k<=10^60:=by decide +kernel
 have hp':=hp (1+n / 6 % 60).toNat (!1) (!1);unfold N3;generalize (10:Int)^(1+n / 6 % 60).toNat=t at hp' ⊢;generalize c % 10^60=d at hc0 hc1 ⊢;split
 ·omega
 split
 ·omega
 split
 ·omega
 split
 ·omega
 split<;>omega
def eB:Sp:=λvs H Q _=>∃n c:Int,vs=[.int n,.int c]/\0<=n/\∀H',Same H H'->Q (.int (N3 n c)) H'
theorem zP:FnScope ["_law_number_here","_law_cell","_law_how","_law_nines"] ["_law_number_here","_law_cell"] (B4 nY):=by walk_at"sc"
theorem Ip(F:Fun K "_law_number" "_law_number" nY f fd)(B:Blt mg):FnOk P w K mg base B9 1 f fd ["_law_number_here","_law_cell"] eB:=by
 refine F.ok zP (by walk_at"ln") (λcdv A outer s H vs Q E hr h=>?_);obtain⟨n,c,rfl,h0,q⟩:=h;have hu:=F6 hr;have nd:=zP.nd;refine F8 (A5 (C8 (i:=2) nd rfl (Or.inl rfl) (A3 G3 (qv 0) A2))
  (A5 (C5 (J1 O2 (qv 2) A2 rfl) (A8 (B7 (A3 V0 (A3 G3 (A3 L1 (qv 0) A2) A2) A2))) C7)
  (A5 (C5 (J1 O2 (qv 2) A2 rfl) (A8 (B7 (A3 V0 (A3 G3 (A3 L1 (qv 0) A2) A2) A2))) C7)
  (A5 (C5 (J1 O2 (qv 2) A2 rfl) (A8 (B7 (A3 G3 (qv 1) (A3 uO A2 A2)))) C7)
  (A5 (C5 (J1 O2 (qv 2) A2 rfl) (A8 (B7 (A3 V0 A2 (A3 G3 (qv 1) (A3 uO A2 A2))))) C7)
  (A5 (C8 (i:=3) nd rfl (Or.inl rfl) (A3 V0 (Z5 lO rfl B.int boot_int (A0 (A3 lN D1 (A3 (E3 K) A2 (A3 G3 (A3 L1 (qv 0) A2) A2))) A1)) (A3 G3 (A3 L1 (qv 0) A2) A2)))
  (A8 (B7 (R4 K hu (O0 (A0 (qv 3) (A0 (A3 V0 A2 (qv 3)) A1))) (A3 G3 (A3 L1 (qv 0) A2) A2) (λ_ _=>rfl)))))))))) ?_
 unfold N3 at q;have yes:∀{i j:Int},decide (V.int i=V.int j)=true->i=j:=λh=>V.int.inj (of_decide_eq_true h)
 have no:∀{i j:Int},¬decide (V.int i=V.int j)=true->¬i=j:=λh e=>h (decide_eq_true (congrArg V.int e))
 refine⟨_,rfl,_,_,rfl,rfl,(by show(0:Int)<6;decide),⟨_,rfl,rfl,_,rfl,aP (λh=>?_) (λh=>?_)⟩⟩
 ·rw[if_pos (yes h)]at q
  exact⟨_,rfl,_,_,rfl,rfl,⟨!3,!3⟩,_,_,rfl,rfl,(by show(0:Int)<5;decide),_,_,rfl,rfl,q _ (Same.refl _)⟩
 rw[if_neg (no h)]at q;refine⟨_,rfl,rfl,_,rfl,aP (λh=>?_) (λh=>?_)⟩
 ·rw[if_pos (yes h)]at q
  exact⟨_,rfl,_,_,rfl,rfl,⟨!3,!3⟩,_,_,rfl,rfl,(by show(0:Int)<2001;decide),_,_,rfl,rfl,q _ (Same.refl _)⟩
 rw[if_neg (no h)]at q;refine⟨_,rfl,rfl,_,rfl,aP (λh=>?_) (λh=>?_)⟩
 ·rw[if_pos (yes h)]at q
  exact⟨_,rfl,_,_,rfl,rfl,⟨!3,!3,!3⟩,_,_,rfl,rfl,(by show(0:Int)<10^60;decide),q _ (Same.refl _)⟩
 rw[if_neg (no h)]at q;refine⟨_,rfl,rfl,_,rfl,aP (λh=>?_) (λh=>?_)⟩
 ·rw[if_pos (yes h)]at q
  exact⟨_,rfl,_,_,rfl,rfl,⟨!3,!3,!3⟩,_,_,rfl,rfl,(by show(0:Int)<10^60;decide),_,_,rfl,rfl,q _ (Same.refl _)⟩
 rw[if_neg (no h)]at q;obtain⟨k,hk⟩:∃k:Nat,1+n / 6 % 60=(k:Int):=⟨(1+n / 6 % 60).toNat,!1⟩
 have hk60:k<=60:=by omega
 have hm:=Io k (!1) (!1);rw[hk,toNat_natCast]at q;have hmo:MulOk ("9" : Str) (k:Int):=by rw[zO];exact(mul_one hk60).1
 have hml:(Txt.mul ("9" : Str) (k:Int)).length<=640:=by rw[zO,oM hk60];omega
 refine⟨_,rfl,_,_,rfl,rfl,⟨!3,!3⟩,_,_,rfl,rfl,(by show(0:Int)<60;decide),L0 ⟨_,_,rfl,rfl,?_⟩⟩;rw[hk];refine⟨hmo,.inr ⟨_,_,rfl,hm,hml,?_⟩⟩;refine⟨_,rfl,_,_,rfl,rfl,⟨!3,!3⟩,_,_,rfl,rfl,(by show(0:Int)<2;decide),_,_,rfl,rfl,?_⟩;dsimp only;generalize (10:Int)^k-1-n / 360 % 2=m at q ⊢;refine⟨_,rfl,_,rfl,_,_,rfl,rfl,(by show 2<=sizeLine;decide),λp hp=>⟨_,rfl,_,_,rfl,rfl,⟨!3,!3⟩,_,_,rfl,rfl,(by show(0:Int)<2;decide),?_⟩⟩;have S:=C3 hp (.lst [.int m,.int (0-m)]);by_cases h7:n / 720 % 2=0
 ·rw[if_pos h7]at q
  dsimp only;rw[h7];exact aV (SqL.of A6) (v:=.int m) rfl (q _ S)
 ·rw[if_neg h7]at q
  dsimp only;rw[show n / 720 % 2=1 by omega];exact aV (SqL.of A6) (v:=.int (0-m)) rfl (q _ S)
end
end K03
namespace K03
open PySem L2 Rg
section
variable{P:Program}{w:World}{K:Frag}{mg:Str->Option Value}{base:Heap}{f:Addr}{fd:FuncData}
def O7(g:Nat->Th):Nat->Ts
 |0=>.nil
 |i+1=>(O7 g i).snoc Str.empty (g i)
def M1(g:Nat->Str×Th):Nat->Ts
 |0=>.nil
 |i+1=>(M1 g i).put (g i).1 (g i).2
def F1:Nat->Int->Int->Th
 |0,n,c=>if n % 7<2∨3<n % 7 then .num (N3 (n / 7) (c / (1+((0:Nat):Int))))else .word (J0 (n / 7))
 |d+1,n,c=>if n % 7<2 then .num (N3 (n / 7) (c / (1+((d+1:Nat):Int))))else if n % 7<4 then .word (J0 (n / 7))
  else if n % 7=4 then .row (O7 (λk=>F1 d (B2 n (20+(0+(k:Int)))) c) (n / 7 % 4).toNat)
  else .dic (M1 (λk=>(J0 (B2 (n / 7) (40+(0+(k:Int)))),F1 d (B2 n (30+(0+(k:Int)))) c)) (n / 7 % 4).toNat)
theorem zQ{k:Str}{t:Th}(hk:k=Str.empty)(ht:t.Gn):∀{l:Ts},l.GnR->(l.snoc k t).GnR
 |.nil,_=>⟨hk,ht,trivial⟩
 |.cons j u r,h=>⟨h.1,h.2.1,zQ hk ht h.2.2⟩
theorem zR{k:Str}{t:Th}(hk:D7 k=true)(ht:t.Gn):∀{l:Ts},l.GnD->(l.put k t).GnD
 |.nil,_=>⟨hk,ht,trivial⟩
 |.cons j u r,h=>by
  show(if j=k then Ts.cons j t r else .cons j u (r.put k t)).GnD;split
  ·exact⟨h.1,ht,h.2.2⟩
  ·exact⟨h.1,h.2.1,zR hk ht h.2.2⟩
theorem zS{k:Str}{t:Th}:∀{l:Ts},(l.put k t).size<=l.size+t.size/\∀d,l.dp<=d->t.dp<=d->(l.put k t).dp<=d
 |.nil=>⟨by show t.size+0<=0+t.size;omega,λd _ h=>Nat.max_le.mpr ⟨h,zero_le _⟩⟩
 |.cons j u r=>by
  obtain⟨h1,h2⟩:=zS (k:=k) (t:=t) (l:=r);have e:(Ts.cons j u r).put k t=if j=k then Ts.cons j t r else .cons j u (r.put k t):=rfl
  rw[e];split
  ·refine⟨by show t.size+r.size<=(u.size+r.size)+t.size;omega,λd hl ht=>?_⟩
   have hl':max u.dp r.dp<=d:=hl;exact Nat.max_le.mpr ⟨ht,(Nat.max_le.mp hl').2⟩
  ·refine⟨by show u.size+(r.put k t).size<=(u.size+r.size)+t.size;omega,λd hl ht=>?_⟩
   have hl':max u.dp r.dp<=d:=hl;exact Nat.max_le.mpr ⟨(Nat.max_le.mp hl').1,h2 d (Nat.max_le.mp hl').2 ht⟩
theorem zT{k:Str}{t:Th}{d:Nat}(ht:t.dp<=d):∀{l:Ts},l.dp<=d->(l.snoc k t).dp<=d
 |.nil,_=>Nat.max_le.mpr ⟨ht,zero_le _⟩
 |.cons j u r,h=>by
  have h':max u.dp r.dp<=d:=h;exact Nat.max_le.mpr ⟨(Nat.max_le.mp h').1,zT ht (Nat.max_le.mp h').2⟩
theorem oO{g:Nat->Th}{b d:Nat}:∀i:Nat,(∀k,k<i->(g k).Gn/\(g k).size<=b/\(g k).dp<=d)->(O7 g i).GnR/\(O7 g i).size<=i*b/\(O7 g i).dp<=d
 |0,_=>⟨trivial,zero_le _,zero_le _⟩
 |i+1,h=>by
  obtain⟨h1,h2,h3⟩:=oO i λk hk=>h k (!1)
  obtain⟨g1,g2,g3⟩:=h i (!1);refine⟨zQ rfl g1 h1,?_,zT g3 h3⟩;show((O7 g i).snoc _ _).size<=_;rw[Ts.snoc_size,succ_mul];omega
theorem eC{g:Nat->Str×Th}{b d:Nat}:∀i:Nat,(∀k,k<i->D7 (g k).1=true/\(g k).2.Gn/\(g k).2.size<=b/\(g k).2.dp<=d)->(M1 g i).GnD/\(M1 g i).keys.Nodup/\(M1 g i).len<=i/\(M1 g i).size<=i*b/\(M1 g i).dp<=d
 |0,_=>⟨trivial,nodup_nil,zero_le _,zero_le _,zero_le _⟩
 |i+1,h=>by
  obtain⟨h1,h2,h3,h4,h5⟩:=eC i λk hk=>h k (!1)
  obtain⟨g0,g1,g2,g3⟩:=h i (!1);obtain⟨z1,z2⟩:=zS (k:=(g i).1) (t:=(g i).2) (l:=M1 g i);refine⟨zR g0 g1 h1,GO h2,le_trans (GP _ _ _) (!1),?_,z2 d h5 g3⟩;show((M1 g i).put _ _).size<=_;rw[succ_mul];omega
def R6:Nat->Nat
 |0=>1
 |d+1=>3*R6 d+1
theorem Iq:∀d,1<=R6 d
 |0=>le_refl _
 |d+1=>by show 1<=3*R6 d+1;omega
theorem eD:∀(d:Nat)(n c:Int),0<=n->(F1 d n c).Gn/\(F1 d n c).size<=R6 d/\(F1 d n c).dp<=d+1
 |0,n,c,h0=>by
  unfold F1;split
  ·exact⟨eA _ _,le_refl _,le_refl _⟩
  ·exact⟨aD (!1),le_refl _,le_refl _⟩
 |d+1,n,c,h0=>by
  have hb:=Iq d;unfold F1;split
  ·exact⟨eA _ _,by show 1<=3*R6 d+1;omega,by show 1<=d+1+1;omega⟩
  split
  ·exact⟨aD (!1),by show 1<=3*R6 d+1;omega,by show 1<=d+1+1;omega⟩
  have hz:=mul_le_mul_right (R6 d) (show(n / 7 % 4).toNat<=3 by omega);split
  ·obtain⟨h1,h2,h3⟩:=oO (g:=λk=>F1 d (B2 n (20+(0+(k:Int)))) c) (b:=R6 d) (d:=d+1) (n / 7 % 4).toNat λk _=>eD d _ c (M6 _ _)
   exact⟨h1,by show(O7 _ _).size+1<=3*R6 d+1;omega,by show(O7 _ _).dp+1<=d+1+1;omega⟩
  ·obtain⟨h1,h2,h3,h4,h5⟩:=eC (g:=λk=>(J0 (B2 (n / 7) (40+(0+(k:Int)))),F1 d (B2 n (30+(0+(k:Int)))) c)) (b:=R6 d) (d:=d+1) (n / 7 % 4).toNat λk _=>⟨aD (M6 _ _),eD d _ c (M6 _ _)⟩
   exact⟨⟨!1,h2,h1⟩,by show(M1 _ _).size+1<=3*R6 d+1;omega,by show(M1 _ _).dp+1<=d+1+1;omega⟩
def bY(d:Nat):Sp:=λvs H Q _=>∃n c:Int,vs=[.int n,.int c,.int (d:Nat)]/\0<=n/\∀(v:V)(H':Hp),Same H H'->Rep (C6 H H') (F1 d n c) v->Q v H'
def zU:Nat->Sp
 |0=>λ_ _ _ _=>False
 |d+1=>bY d
theorem zV:FnScope ["_law_number_here","_law_cell","_law_deep","_law_how","_law_rest","_law_made","_law_k"] ["_law_number_here","_law_cell","_law_deep"] (B4 dW):=by walk_at"sc"
theorem iL{d:Nat}(hd:d<=3)(F:Fun K "_law_thing" "_law_thing" dW f fd)(B:Blt mg)(h_l_mixed:C4 P w K mg base "_law_mixed" 1 ["_law_number_here","_law_k"] bW)(h_l_name:C4 P w K mg base "_law_name" 1 ["_law_number_here"] bX)(h_l_number:C4 P w K mg base "_law_number" 1 ["_law_number_here","_law_cell"] eB)(h_l_thing:C4 P w K mg base "_law_thing" (d+1) ["_law_number_here","_law_cell","_law_deep"] (zU d)):FnOk P w K mg base B9 (d+2) f fd ["_law_number_here","_law_cell","_law_deep"] (bY d):=by
 refine F.ok zV (by walk_at"ln") (λcdv A outer s H vs Q E hr h=>?_);obtain⟨n,c,rfl,h0,q⟩:=h;have hu:=F6 hr;have nd:=zV.nd;refine F8 (A5 (C8 (i:=3) nd rfl (Or.inl rfl) (A3 G3 (qv 0) A2))
  (A5 (C8 (i:=4) nd rfl (Or.inl rfl) (A3 L1 (qv 0) A2))
  (A5 (C5 (Z4 (cX (J1 lF (qv 3) A2 rfl) (gE (Z4 (kZ (J1 O2 (qv 2) A2 rfl) (kY (J1 gI (qv 3) A2 rfl))))))) (A8 (B7 (C1 h_l_number hr (!1) rfl (A0 (qv 4) (A0 (A3 L1 (qv 1) (A3 (E3 K) A2 (qv 2))) A1))))) C7)
  (A5 (C5 (J1 lF (qv 3) A2 rfl) (A8 (B7 (C1 h_l_name hr (!1) rfl (A0 (qv 4) A1)))) C7)
  (A5 (C5 (J1 O2 (qv 3) A2 rfl) (A8 (B7 (W8 rfl (.inl rfl) (aZ rfl B.range (A0 (A3 G3 (qv 4) A2) A1)) (LcStG.ok (sc:=B4 dW) (N:=["_law_number_here","_law_cell","_law_deep","_law_how","_law_rest","_law_made","_law_k"]) (fr:=[("_law_cell",1),("_law_number_here",0),("_law_deep",2)]) (by walk_at"s7") rfl rfl) (λ_ _ _ _=>W7) (λ_ _ _ _=>(C1 h_l_thing hr (!1) rfl (A0 (C1 h_l_mixed hr (!1) rfl (A0 (qv 2) (A0 (A3 (E3 K) A2 (qv 0)) A1))) (A0 (qv 1) (A0 (A3 V0 (qv 3) A2) A1)))))))) C7)
  (A5 (C8 (i:=5) nd rfl (Or.inl rfl) kW)
  (A5 (bB PassesOwn.never rfl (aZ rfl B.range (A0 (A3 G3 (qv 4) A2) A1)) (U9 (i:=6) nd rfl (Or.inl rfl)) (A8 (gG hu (C1 h_l_thing hr (!1) rfl (A0 (C1 h_l_mixed hr (!1) rfl (A0 (qv 0) (A0 (A3 (E3 K) A2 (qv 6)) A1))) (A0 (qv 1) (A0 (A3 V0 (qv 2) A2) A1)))) (qv 5) (C1 h_l_name hr (!1) rfl (A0 (C1 h_l_mixed hr (!1) rfl (A0 (qv 4) (A0 (A3 (E3 K) A2 (qv 6)) A1))) A1)))))
  (A8 (B7 (qv 5)))))))))) ?_
 refine⟨_,rfl,_,_,rfl,rfl,(by show(0:Int)<7;decide),_,rfl,_,_,rfl,rfl,⟨!3,!3⟩,?_⟩;have hr0:0<=n / 7:=Int.ediv_nonneg h0 (!3);have num:F1 d n c=.num (N3 (n / 7) (c / (1+(d:Int))))->eB [.int (n / 7),.int (c / (1+(d:Int)))] H Q E0:=λe=>⟨_,_,rfl,hr0,λH' s'=>q _ H' s' (by rw[e];rfl)⟩
 have wrd:F1 d n c=.word (J0 (n / 7))->bX [.int (n / 7)] H Q E0:=λe=>⟨_,rfl,hr0,q _ H (Same.refl H) (by rw[e];rfl)⟩
 refine⟨_,rfl,_,_,rfl,rfl,_,rfl,?_⟩;by_cases h1:n % 7<2
 ·exact M8 (decide_eq_true h1) (D0 ⟨_,rfl,_,rfl,_,rfl,L0 ⟨_,_,rfl,rfl,⟨!1,!1⟩,num (by cases d with|zero=>unfold F1;rw[if_pos (Or.inl h1)]|succ e=>unfold F1;rw[if_pos h1])⟩⟩)
 refine P0 (decide_eq_false h1) ⟨_,rfl,rfl,_,rfl,?_⟩;cases d with
 |zero=>
  refine M8 (decide_eq_true rfl) ⟨_,rfl,_,_,rfl,rfl,_,rfl,?_⟩;by_cases h3:3<n % 7
  ·exact M8 (decide_eq_true h3) ⟨_,rfl,_,rfl,_,rfl,L0 ⟨_,_,rfl,rfl,⟨!1,!1⟩,num (by unfold F1;rw[if_pos (.inr h3)])⟩⟩
  ·exact P0 (decide_eq_false h3) ⟨_,rfl,_,_,rfl,rfl,_,rfl,M8 (decide_eq_true (!1)) ⟨_,rfl,wrd (by unfold F1;rw[if_neg (!1)])⟩⟩
 |succ e=>
  refine P0 (decide_eq_false (λz=>by have:=V.int.inj z;omega)) (B5 ⟨_,rfl,_,_,rfl,rfl,_,rfl,?_⟩);by_cases h4:n % 7<4
  ·exact M8 (decide_eq_true h4) ⟨_,rfl,wrd (by unfold F1;rw[if_neg h1,if_pos h4])⟩
  refine P0 (decide_eq_false h4) ⟨_,rfl,rfl,_,rfl,?_⟩;have eback:∀m:Int,[V.int m,V.int c,V.int (((e+1:Nat):Int)-1)]=[V.int m,V.int c,V.int (e:Nat)]:=λm=>by
   rw[show(((e+1:Nat):Int)-1)=(e:Nat) by omega]
  by_cases h5:n % 7=4
  ·refine M8 (decide_eq_true (congrArg V.int h5)) ?_
   refine⟨_,rfl,_,_,rfl,rfl,(by show(0:Int)<4;decide),n / 7 % 4,rfl,!1,!1,W6 (aX (lo:=0) (n:=(n / 7 % 4).toNat)) (λi ys H'=>Same H H'/\ys.length=i/\RepR (C6 H H') (O7 (λk=>F1 e (B2 n (20+(0+(k:Int)))) c) i) ys) (N8 (!1)) ⟨Same.refl H,rfl,rfl⟩ (λi ys H' _ p=>⟨trivial,!1⟩) (λi x ys H1 H2 hi p y=>?_) (λys H' p r hr'=>?_)⟩
   ·obtain⟨rfl,rfl⟩:=y
    obtain⟨sm,hy,hl⟩:=p;refine⟨_,rfl,rfl,_,rfl,_,rfl,L0 ⟨n,_,rfl,!1,!1,_,rfl,_,rfl,_,_,rfl,rfl,?_⟩⟩;exact⟨_,c,eback _,M6 _ _,λv H3 s3 rep=>⟨sm.trans s3,by rw[length_append,hy];rfl,RepR.snoc (rep.mono (O5 (Dom.of sm))) (hl.mono (S7 s3))⟩⟩
   ·obtain⟨sm,hy,hl⟩:=p
    have s2:=C3 hr' (.lst ys);refine q (.ref r) _ (sm.trans s2) ?_;have et:F1 (e+1) n c=.row (O7 (λk=>F1 e (B2 n (20+(0+(k:Int)))) c) (n / 7 % 4).toNat):=by
     show(if _ then _ else _)=_;rw[if_neg h1,if_neg h4,if_pos h5]
    rw[et];exact⟨r,ys,rfl,O4 (sm.free hr') A6,hl.mono (S7 s2)⟩
  ·refine P0 (decide_eq_false (λz=>h5 (V.int.inj z))) λmd hmd=>?_
   have gm:(upd H md (.dK [])) md≠none:=by rw[A6];simp
   refine⟨_,rfl,_,_,rfl,rfl,(by show(0:Int)<4;decide),n / 7 % 4,rfl,!1,!1,aW (aX (lo:=0) (n:=(n / 7 % 4).toNat)) (λi σ' H'=>∃pk kvs,σ'=[some (.int n),some (.int c),some (.int ((e+1:Nat))),some (.int (n % 7)),some (.int (n / 7)),some (.ref md),pk]/\Same H H'/\Dom (upd H md (.dK [])) H'/\H' md=some (.dK kvs)/\RepD (C6 (upd H md (.dK [])) H') (M1 (λk=>(J0 (B2 (n / 7) (40+(0+(k:Int)))),F1 e (B2 n (30+(0+(k:Int)))) c)) i) kvs)
    ⟨none,[],rfl,C3 hmd _,Dom.refl _,A6,rfl⟩ (λi σ' H' hi p=>trivial) (λi x σ' H1 H2 hi p y=>?_) (fun σ' H' p=>?_)⟩
   ·obtain⟨rfl,rfl⟩:=y
    obtain⟨pk,kvs,rfl,sm,dm,hm,hl⟩:=p;obtain⟨_,hnd,hll,_,_⟩:=eC (g:=λk=>(J0 (B2 (n / 7) (40+(0+(k:Int)))),F1 e (B2 n (30+(0+(k:Int)))) c)) (b:=R6 e) (d:=e+1) i λk _=>⟨aD (M6 _ _),eD e _ c (M6 _ _)⟩
    refine⟨_,rfl,_,rfl,L0 ⟨n,_,rfl,!1,!1,_,rfl,_,rfl,_,_,rfl,rfl,?_⟩⟩;refine⟨_,c,eback _,M6 _ _,λv H3 s3 rep=>⟨_,rfl,_,rfl,_,rfl,L0 ⟨n / 7,_,rfl,!1,!1,_,rfl,M6 _ _,?_⟩⟩⟩;have hm3:=s3 _ _ hm;have hkl:kvs.length<=3:=by rw[hl.len];omega
    refine gA hm3 (cK (!1)) ?_;have hl3:=hl.mono (S7 (G:=upd H md (.dK [])) s3);have rep3:=rep.mono (O5 (G:=upd H md (.dK [])) dm);refine⟨_,_,rfl,(sm.trans s3).put hmd,(dm.trans (Dom.of s3)).upd,A6,?_⟩;rw[W9 gm];exact RepD.put rep3 hnd hl3
   ·obtain⟨pk,kvs,rfl,sm,dm,hm,hl⟩:=p
    refine⟨_,rfl,q (.ref md) H' sm ?_⟩;have et:F1 (e+1) n c=.dic (M1 (λk=>(J0 (B2 (n / 7) (40+(0+(k:Int)))),F1 e (B2 n (30+(0+(k:Int)))) c)) (n / 7 % 4).toNat):=by
     show(if _ then _ else _)=_;rw[if_neg h1,if_neg h4,if_neg h5]
    rw[et];exact⟨md,kvs,rfl,O4 hmd hm,hl.mono (O5 (Dom.of (C3 hmd _)))⟩
theorem Ir:FnOk P w K mg base B9 1 f fd ["_law_number_here","_law_cell","_law_deep"] (zU 0):=⟨λvs H Q E h=>h.elim,λA outer s H args us vs Q E _ _ _ _ h=>h.elim⟩
theorem Is(F:Fun K "_law_thing" "_law_thing" dW f fd)(B:Blt mg)(bF:Binds K fd ["_law_number_here","_law_cell","_law_deep"] [])(kF:keepIn K (.ref f)=true)(mF:mg "_law_thing"=some (.ref f))(h_l_mixed:C4 P w K mg base "_law_mixed" 1 ["_law_number_here","_law_k"] bW)(h_l_name:C4 P w K mg base "_law_name" 1 ["_law_number_here"] bX)(h_l_number:C4 P w K mg base "_law_number" 1 ["_law_number_here","_law_cell"] eB):FnOk P w K mg base B9 2 f fd ["_law_number_here","_law_cell","_law_deep"] (bY 0)/\FnOk P w K mg base B9 5 f fd ["_law_number_here","_law_cell","_law_deep"] (bY 3):=
 have t0:=iL (d:=0) (!3) F B h_l_mixed h_l_name h_l_number ⟨f,fd,Ir,bF,kF,mF⟩;have t1:=iL (d:=1) (!3) F B h_l_mixed h_l_name h_l_number ⟨f,fd,t0,bF,kF,mF⟩;have t2:=iL (d:=2) (!3) F B h_l_mixed h_l_name h_l_number ⟨f,fd,t1,bF,kF,mF⟩
 ⟨t0,iL (d:=3) (!3) F B h_l_mixed h_l_name h_l_number ⟨f,fd,t2,bF,kF,mF⟩⟩
end
end K03
namespace K03
open PySem PySem.W L2 Rg
section
variable{P:Program}{w:World}{K:Frag}{mg:Str->Option Value}{base:Heap}{f:Addr}{fd:FuncData}
def Iu:Pos:=⟨187,34,187,94⟩
def bZ:Str:=(("_law_in_order" : Str)++".<locals>.")++"<lambda>"
abbrev Q9(Pt:Addr)(H:Hp):Prop:=TabOk Pt Iu bZ H
abbrev oQ:Arguments:={posonlyargs:=[],args:=[{arg:="_law_name_here",annotation:=none,pos:=⟨187,41,187,55⟩}],vararg:=none,kwonlyargs:=[],kw_defaults:=[],kwarg:=none,defaults:=[]}
abbrev oR:PySem.Expr:=.Tuple [.Call (.Name "len" ⟨187,58,187,61⟩) [.Name "_law_name_here" ⟨187,62,187,76⟩] [] ⟨187,58,187,77⟩,.Name "_law_name_here" ⟨187,79,187,93⟩] 0 ⟨187,57,187,94⟩
abbrev iM:Scope:={kind:=.function,names:=[("_law_name_here",.local),("len",.globalImplicit)],isGenerator:=false,isCoroutine:=false,more:=[]}
def Iv(K:Frag):List V->List V->Hp->VK->Prop:=λvs zs H Q=>∃(f c' a:Addr)(xs:List Str),vs=[.ref a]/\zs=[.ref f]/\H f=some (bQ f c' bZ oQ oR iM)/\H c'=some (aA c' bZ)/\SqL K H a (xs.map V.str)/\xs.length<128/\xs.Nodup/\(∀x∈xs,x.length<=1000)/\∀(q:Addr)(H':Hp),Same H H'->H' q=some (.lst ((B8 xs).map V.str))->Q (.ref q) H'
theorem Iw:FnScope ["_law_name_here"] ["_law_name_here"] iM:=by walk_at"sc"
theorem Ix{X:Cx}(B:Blt X.mg)(hc:X.calm=true)(hne:∀e s,X.xe e s->False)(hr:Room 3 X.A):fQ X "sorted" [Str.ofString "key"] (Iv X.K):=by
 intro ζ s σ H vs zs us ws Q I rv rz h;obtain⟨f,c',a,xs,rfl,rfl,hf,hc',ha,h64,nd,hx,q⟩:=h;have F:=GT (CX:=B9) (P:=X.prog) (w:=X.w) (K:=X.K) (mg:=X.mg) (base:=X.base) (k:=0) (f:=f) (c':=c') (q:=bZ) (params:=oQ) (body:=oR) (scope:=iM) (N:=["_law_name_here"]) (ps:=["_law_name_here"]) (sp:=W3)
  Iw (λvs H Q E h=>by obtain⟨x,rfl,_⟩:=h;rfl)
  (λA outer s H vs Q E hr h=>by
   obtain⟨x,rfl,hx,q⟩:=h;refine⟨_,cH (K4 (aN iV rfl B.len boot_len (K4 (pv 0) O8)) (K4 (pv 0) O8)),?_⟩;exact⟨_,rfl,_,_,rfl,⟨N8 hx,rfl⟩,_,rfl,(by show 2<=sizeLine;decide),λp hp=>q p hp⟩)
 have bF:Binds X.K (xT c' bZ oQ oR iM) ["_law_name_here"] []:=Binds.all λus hl=>match us,hl with|[_],_=>rfl
 exact GJ hc hne F hr bF ζ s σ H _ _ us ws Q I rv rz ⟨a,xs,rfl,rfl,ha,λH' vs Q E sm h=>⟨sm _ _ hf,sm _ _ hc',h⟩,h64,nd,hx,q⟩
def oS(Pt:Addr):Sp:=λvs H Q _=>∃(a:Addr)(xs:List Str),vs=[.ref a]/\H a=some (.lst (xs.map V.str))/\xs.length<128/\xs.Nodup/\(∀x∈xs,x.length<=1000)/\Q9 Pt H/\∀(q:Addr)(H':Hp),SameX H H'->Q9 Pt H'->H' q=some (.lst ((B8 xs).map V.str))->Q (.ref q) H'
theorem Iy:FnScope ["_law_names"] ["_law_names"] (B4 S9):=by walk_at"sc"
theorem Iz{c Pt:Addr}{oc kV doc pm ct:Value}{od an:Option Addr}{osl:Array (Option Value)}(lk:K.lookup f=some ⟨oc,od,.func (fnOf "_law_in_order" "_law_in_order" (R3 S9) (N5 S9) (B4 S9) .none kV doc pm an (.ref c) ct),osl⟩)
  (hcd:codeIn K (.ref c) "_law_in_order"=true) (B:Blt mg) (hC:CodeHd base c Pt) (hB:BM mg base):
  FnOk P w K mg base B9 4 f (fnOf "_law_in_order" "_law_in_order" (R3 S9) (N5 S9) (B4 S9) .none kV doc pm an (.ref c) ct) ["_law_names"] (oS Pt):=by
 refine iZ lk hcd Iy (λvs H Q E h=>?_) (λA outer s H vs Q E hr h=>?_)
 ·obtain⟨a,xs,rfl,_⟩:=h
  rfl
 obtain⟨a,xs,rfl,ha,h64,nd,hx,tab,q⟩:=h;have hu:=F6 hr
 suffices key:∃t,PSs (J3 B9 P w K mg base ["_law_names"] "_law_in_order" (B4 S9) f (.ref c) A outer s H E).nox (N5 S9) t/\t {nx:=λ_ H'=>Q .non H',rt:=Q} (L2.start ["_law_names"] [.ref a]) H by
  obtain⟨t,ht,hq⟩:=key;exact⟨t,ht.nox,hq⟩
 refine⟨_,Y3 (Y4 (tE (Ix B rfl (λ_ _ z=>z) hr) rfl B.sorted PyProof.Rows.boot_sorted (K4 (pv 0) O8) (rE (GS (q:=bZ) rfl rfl hC hB rfl) rD))),?_⟩;refine⟨_,rfl,tab,λfl c' H1 sx1 hf hc' tab1=>?_⟩;refine⟨fl,c',a,xs,rfl,rfl,hf,hc',?_,h64,nd,hx,λq' H2 sm2 hq'=>q q' H2 (sx1.trans (Same.x sm2)) (tab1.mono sm2) hq'⟩;exact SqL.of (sx1 _ _ ha (λ_ z=>by cases z))
end
end K03
namespace K03
open PySem PySem.W L2 Rg
section
variable{P:Program}{w:World}{K:Frag}{mg:Str->Option Value}{base:Heap}{f:Addr}{fd:FuncData}
mutual
theorem Rep.monoX{H H':Hp}(e:SameX H H'):∀{t:Th}{v:V},Rep H t v->Rep H' t v
 |.num _,_,h=>h
 |.word _,_,h=>h
 |.row l,_,h=>by
  obtain⟨a,xs,h1,h2,h3⟩:=(h:∃a xs,_=V.ref a/\H a=some (.lst xs)/\RepR H l xs);exact⟨a,xs,h1,e _ _ h2 (λ_ z=>by cases z),RepR.monoX e h3⟩
 |.dic l,_,h=>by
  obtain⟨a,kvs,h1,h2,h3⟩:=(h:∃a kvs,_=V.ref a/\H a=some (.dK kvs)/\RepD H l kvs);exact⟨a,kvs,h1,e _ _ h2 (λ_ z=>by cases z),RepD.monoX e h3⟩
theorem RepR.monoX{H H':Hp}(e:SameX H H'):∀{l:Ts}{xs:List V},RepR H l xs->RepR H' l xs
 |.nil,_,h=>h
 |.cons _ t r,_,h=>by
  obtain⟨y,ys,h1,h2,h3⟩:=(h:∃y ys,_=y::ys/\Rep H t y/\RepR H r ys);exact⟨y,ys,h1,Rep.monoX e h2,RepR.monoX e h3⟩
theorem RepD.monoX{H H':Hp}(e:SameX H H'):∀{l:Ts}{kvs:List (A4×V)},RepD H l kvs->RepD H' l kvs
 |.nil,_,h=>h
 |.cons _ t r,_,h=>by
  obtain⟨y,ys,h1,h2,h3⟩:=(h:∃y ys,_=(Sum.inr _,y)::ys/\Rep H t y/\RepD H r ys);exact⟨y,ys,h1,Rep.monoX e h2,RepD.monoX e h3⟩
end
theorem IA:(", " : Str)=⟨#[44,32]⟩:=by decide +kernel
theorem zW(ws:List Str):(Txt.join ", " ws).cps.toList=Q6 44 32 ws:=by
 show(Builtin.Str.glued ", " ws).cps.toList=_;rw[StrLaws.glued_eq_join,IA,vY]
theorem oU{L:Nat}:∀{ws:List Str},(∀w∈ws,w.length<=L)->(ws.map (·.length)).sum<=ws.length*L
 |[],_=>zero_le _
 |w::r,h=>by
  have h1:=h w mem_cons_self;have h2:=oU λx hx=>h x (mem_cons_of_mem _ hx)
  show w.length+(r.map (·.length)).sum<=(r.length+1)*L;rw[succ_mul];omega
def eE(Pt:Addr)(d:Nat):Sp:=λvs H Q _=>∃(t:Th)(v:V),vs=[v]/\Rep H t v/\t.Gn/\t.size<=100/\t.dp<=d+1/\Q9 Pt H/\∀H':Hp,SameX H H'->Q9 Pt H'->Q (.str (sL (B0 t))) H'
def oV(Pt:Addr):Nat->Sp
 |0=>λ_ _ _ _=>False
 |d+1=>eE Pt d
theorem zX(t:Th):1<=t.dp:=by cases t<;>first|exact le_refl _|exact Nat.le_add_left 1 _
theorem aE{l:Ts}{p:Str×Th}(h:p∈l.toL):p.2.size<=l.size:=by
 rw[aU];generalize l.toL=ps at h
 induction ps with
 |nil=>cases h
 |cons q ps ih=>
  rw[map_cons,sum_cons];rcases mem_cons.mp h with rfl|h
  ·omega
  ·have:=ih h;omega
theorem zY:FnScope ["_law_thing_here","_law_names"] ["_law_thing_here"] (B4 bS):=by walk_at"sc"
theorem zZ{Pt:Addr}{d:Nat}(hd:d<=19)(F:Fun K "_law_text" "_law_text" bS f fd)(B:Blt mg)(h_l_in_order:C4 P w K mg base "_law_in_order" 4 ["_law_names"] (oS Pt))(h_l_text:C4 P w K mg base "_law_text" (d+5) ["_law_thing_here"] (oV Pt d)):FnOk P w K mg base B9 (d+6) f fd ["_law_thing_here"] (eE Pt d):=by
 refine F.ok zY (by walk_at"ln") (λcdv A outer s H vs Q E hr h=>?_);obtain⟨t,v,rfl,rep,gn,hsz,hdp,tab,q⟩:=h;have hu:=F6 hr;have nd:=zY.nd;have hnl:=iB gn;refine F8 (A5 (C5 (E2 K (F4 (O3 K) rfl B.isi boot_isinstance (A0 (qv 0) (A0 (N9 (v:=.ty "list") rfl B.list PyProof.Rows.boot_list rfl) A1))) (λ_=>rfl)) (A8 (B7 (A3 (E3 K) (A3 (E3 K) D1 (M5 K PySem.F.plainAttrs_str PySem.F.slot_str_join PySem.F.type_str_join (lK K) D1 (A0 (W8 rfl (.inl rfl) (gF K (qv 0)) (LcStG.ok (sc:=B4 bS) (N:=["_law_thing_here","_law_names"]) (fr:=[]) (by walk_at"s7") rfl rfl) (λ_ _ _ _=>W7) (λ_ _ _ _=>(C1 h_l_text hr (!1) rfl (A0 (qv 0) A1)))) A1))) D1))) C7)
  (A5 (C5 (E2 K (F4 (O3 K) rfl B.isi boot_isinstance (A0 (qv 0) (A0 (N9 (v:=.ty "dict") rfl B.dict PyProof.Rows.boot_dict rfl) A1))) (λ_=>rfl)) (A5 (C8 (i:=1) nd rfl (Or.inl rfl) (C1 h_l_in_order hr (!1) rfl (A0 (Z5 (GF rfl) rfl B.list PyProof.Rows.boot_list (A0 (qv 0) A1)) A1)))
  (A8 (B7 (A3 (E3 K) (A3 (E3 K) D1 (M5 K PySem.F.plainAttrs_str PySem.F.slot_str_join PySem.F.type_str_join (lK K) D1 (A0 (W8 rfl (.inl rfl) (gF K (qv 1)) (LcStG.ok (sc:=B4 bS) (N:=["_law_thing_here","_law_names"]) (fr:=[("_law_thing_here",0)]) (by walk_at"s7") rfl rfl) (λ_ _ _ _=>W7) (λ_ _ _ _=>(A3 (E3 K) (A3 (E3 K) (qv 0) D1) (C1 h_l_text hr (!1) rfl (A0 (R4 K hu (qv 1) (qv 0) (λ_ _=>rfl)) A1))))) A1))) D1)))) C7)
  (A8 (B7 (Z5 FZ rfl B.str boot_str (A0 (qv 0) A1)))))) ?_
 have ety:=rep.ty (K:=K);refine⟨_,rfl,J5 ety (cO _ t) ⟨_,rfl,?_⟩⟩;have sub:∀{c:Th}{x:V}{H1:Hp}{R:VK},c.Gn->c.size<=100->c.dp<=d->Rep H1 c x->Q9 Pt H1->(∀H',SameX H1 H'->Q9 Pt H'->R (.str (sL (B0 c))) H')->oV Pt d [x] H1 R E0:=λ{c x H1 R} h1 h2 h3 h4 h5 h6=>by
  cases d with
  |zero=>have:=zX c;omega
  |succ e=>exact⟨c,x,rfl,h4,h1,h2,h3,h5,h6⟩
 cases t with
 |num i=>
  obtain rfl:v=.int i:=rep;have hi:i.natAbs<10^60:=gn;refine B5 ⟨_,rfl,J5 ety (R8 _ _) ⟨_,rfl,B5 ⟨_,rfl,.inl ⟨i,rfl,lR hi,q H (SameX.refl H) tab⟩⟩⟩⟩
 |word x=>
  obtain rfl:v=.str x:=rep;refine B5 ⟨_,rfl,J5 ety (R8 _ _) ⟨_,rfl,B5 ⟨_,rfl,.inr ⟨x,rfl,q H (SameX.refl H) tab⟩⟩⟩⟩
 |row l=>
  have hsz':l.size+1<=100:=hsz;have hdp':l.dp<=d:=by have:l.dp+1<=d+1:=hdp;omega
  have gnm:=dO (show l.GnR from gn);obtain⟨a,xs,rfl,h2,h3⟩:=(rep:∃a xs,v=V.ref a/\H a=some (.lst xs)/\RepR H l xs);have hxl:=h3.len;have hll:=X7 l;have htl:=cR l;have zl:∀z∈l.toL.map (λp=>sL (B0 p.2)),z.length<=7300:=λz hz=>by
   obtain⟨p,hp,rfl⟩:=mem_map.mp hz;have:=iB (gnm p hp).2;have:=aE hp;rw[C2];show(B0 p.2).length<=7300;omega
  refine D0 ⟨rfl,_,rfl,a,rfl,⟨_,SqL.of h2⟩,W6 (gC (xs:=xs)) (λi ys H'=>ys=((l.toL.take i).map λp=>sL (B0 p.2)).map V.str/\SameX H H'/\Q9 Pt H') (N8 (!1)) ⟨rfl,SameX.refl H,tab⟩ (λi ys H' hi p=>?_) (λi x ys H1 H2 hi p y=>?_) (λys H' p r hr'=>?_)⟩
  ·obtain⟨rfl,sx,_⟩:=p
   exact⟨SqL.of (sx _ _ h2 (λ_ z=>by cases z)),by rw[length_map,length_map,length_take];omega⟩
  ·obtain⟨rfl,hx⟩:=y
   obtain⟨rfl,sx,tab'⟩:=p;obtain⟨c,hc,rc⟩:=h3.at i x hx;rw[←lH,getElem?_map]at hc;obtain⟨p,hp,rfl⟩:=Option.map_eq_some_iff.mp hc;have hpm:=mem_of_getElem? hp;refine⟨_,rfl,rfl,_,rfl,sub (gnm p hpm).2 (by have:=aE hpm;omega) (le_trans (bO.mp (le_refl _) p hpm) hdp') (Rep.monoX sx rc) tab' λH3 sx3 tab3=>⟨?_,sx.trans sx3,tab3⟩⟩;rw[take_succ,hp,map_append,map_append];rfl
  ·obtain⟨rfl,sx,tab'⟩:=p
   rw[hxl,take_of_length_le (!1)];have s2:=C3 hr' (.lst ((l.toL.map λp=>sL (B0 p.2)).map V.str));have en:=GU l;have ej:(Txt.join ", " (l.toL.map λp=>sL (B0 p.2))).cps.toList=Q6 44 32 (l.toL.map λp=>sL (B0 p.2)):=zW _;have el:(Q6 44 32 (l.toL.map λp=>sL (B0 p.2))).length+2=(B0 (.row l)).length:=by
    rw[en,length_cons,length_append];rfl
   have hsum:=oU zl;rw[length_map]at hsum;refine⟨", ",r,l.toL.map λp=>sL (B0 p.2),rfl,rfl,SqL.of A6,!0,by rw[length_map];omega,S0 ?_ (S0 ?_ ?_)⟩
   ·exact le_of_lt (J7 _ (by show 1+(Txt.join ", " _).length<=_;rw[C2,ej];omega))
   ·refine le_of_lt (J7 _ (show("["++Txt.join ", " (l.toL.map λp=>sL (B0 p.2)):Str).length+1<=100000 from ?_))
    rw[C2,PyProof.Rows.cps_toList_append,length_append,ej];show 1+_+1<=100000;omega
   ·have e:("["++Txt.join ", " (l.toL.map λp=>sL (B0 p.2))++"]" : Str)=sL (B0 (.row l)):=gQ (by
     rw[PyProof.Rows.cps_toList_append,PyProof.Rows.cps_toList_append,ej,en];rfl)
    rw[e];exact q _ (sx.trans (Same.x s2)) (tab'.mono s2)
 |dic l=>
  have hsz':l.size+1<=100:=hsz;have hdp':l.dp<=d:=by have:l.dp+1<=d+1:=hdp;omega
  obtain⟨_,hnd,hg⟩:=(gn:l.len<=100/\l.keys.Nodup/\l.GnD);have gnm:=Y1 hg;obtain⟨a,kvs,rfl,h2,h3⟩:=(rep:∃a kvs,v=V.ref a/\H a=some (.dK kvs)/\RepD H l kvs);have hll:=X7 l;have hkl:=Ts.keys_len l;have pm:=N6 l.keys;have hsl:(B8 l.keys).length=l.len:=by rw[pm.length_eq,hkl]
  have hkn:∀k∈l.keys,D7 k=true:=λk hk=>(gnm _ (Y2 l hk)).1
  have k8:∀k∈l.keys,k.length<=8:=λk hk=>by
   have h:=hkn k hk;unfold D7 at h;simp only[Bool.and_eq_true,decide_eq_true_eq]at h;exact h.1.2
  have lz:∀k∈l.keys,(sL (B0 (l.fld k))).length<=7220:=λk hk=>by
   have hm:=Y2 l hk;have h1:=iB (gnm _ hm).2;have h2:=aE hm;rw[C2];show(B0 (l.fld k)).length<=7220;have h1':(B0 (l.fld k)).length+12<=73*(l.fld k).size:=h1;have h2':(l.fld k).size<=l.size:=h2;omega
  have zl:∀z∈(B8 l.keys).map (λk=>k++": "++sL (B0 (l.fld k))),z.length<=7300:=λz hz=>by
   obtain⟨k,hk,rfl⟩:=mem_map.mp hz;have hk':=pm.mem_iff.mp hk;have a1:=k8 k hk';have a2:=lz k hk';rw[C2]at a1 a2;rw[C2,PyProof.Rows.cps_toList_append,PyProof.Rows.cps_toList_append,length_append,length_append];show k.cps.toList.length+2+(sL (B0 (l.fld k))).cps.toList.length<=7300;omega
  refine B5 ⟨_,rfl,J5 ety (R8 _ _) ⟨_,rfl,D0 ⟨_,rfl,a,kvs,l.keys,rfl,h2,h3.keys,λls hls=>⟨ls,l.keys,rfl,A6,!1,hnd,λx hx=>oI (hkn x hx),tab.mono (C3 hls _),λr0 H1 sx1 tab1 hr0=>?_⟩⟩⟩⟩;have SX1:SameX H H1:=(Same.x (C3 hls (.lst (l.keys.map V.str)))).trans sx1;clear sx1;refine⟨rfl,_,rfl,r0,rfl,⟨_,SqL.of hr0⟩,W6 (gC (xs:=(B8 l.keys).map V.str)) (λi ys H'=>ys=(((B8 l.keys).take i).map λk=>k++": "++sL (B0 (l.fld k))).map V.str/\SameX H1 H'/\Q9 Pt H') (N8 (by rw[length_map];omega)) ⟨rfl,SameX.refl H1,tab1⟩ (λi ys H' hi p=>?_) (λi x ys H2 H3 hi p y=>?_) (λys H' p r hr'=>?_)⟩
  ·obtain⟨rfl,sx,_⟩:=p
   exact⟨SqL.of (sx _ _ hr0 (λ_ z=>by cases z)),by rw[length_map,length_map,length_take];omega⟩
  ·obtain⟨rfl,hx⟩:=y
   obtain⟨rfl,sx,tab'⟩:=p;obtain⟨k,hk,rfl⟩:=uZ hx;have hkm:k∈l.keys:=pm.mem_iff.mp (mem_of_getElem? hk);have hc:=cP l hkm;obtain⟨y,hy,ry⟩:=h3.val hc;have hm:=Y2 l hkm;have hk8:=k8 k hkm;have hz8:=lz k hkm;have SX:=SX1.trans sx;refine⟨_,rfl,rfl,_,rfl,S0 (N8 (show k.length+2<=1000 by omega)) ⟨_,rfl,_,rfl,EE (SX _ _ h2 (λ_ z=>by cases z)) hy (sub (c:=l.fld k) (gnm _ hm).2 (by have h2':(l.fld k).size<=l.size:=aE hm;omega) (le_trans (bO.mp (le_refl _) _ hm) hdp') (Rep.monoX SX ry) tab' λH4 sx4 tab4=>S0 ?_ ⟨?_,sx.trans sx4,tab4⟩)⟩⟩
   ·refine le_of_lt (J7 _ ?_)
    rw[C2,PyProof.Rows.cps_toList_append,length_append,←C2];show k.length+2+(sL (B0 (l.fld k))).length<=_;omega
   ·rw[take_succ,hk,map_append,map_append];rfl
  ·obtain⟨rfl,sx,tab'⟩:=p
   rw[length_map,take_of_length_le (le_refl _)];have s2:=C3 hr' (.lst (((B8 l.keys).map λk=>k++": "++sL (B0 (l.fld k))).map V.str));have en:=GV l;have ej:(Txt.join ", " ((B8 l.keys).map λk=>k++": "++sL (B0 (l.fld k)))).cps.toList=Q6 44 32 ((B8 l.keys).map λk=>k++": "++sL (B0 (l.fld k))):=zW _;have el:(Q6 44 32 ((B8 l.keys).map λk=>k++": "++sL (B0 (l.fld k)))).length+2=(B0 (.dic l)).length:=by
    rw[en,length_cons,length_append];rfl
   have hsum:=oU zl;rw[length_map,hsl]at hsum;refine⟨", ",r,(B8 l.keys).map λk=>k++": "++sL (B0 (l.fld k)),rfl,rfl,SqL.of A6,!0,by rw[length_map,hsl];omega,S0 ?_ (S0 ?_ ?_)⟩
   ·exact le_of_lt (J7 _ (by show 1+(Txt.join ", " _).length<=_;rw[C2,ej];omega))
   ·refine le_of_lt (J7 _ (show("{"++Txt.join ", " ((B8 l.keys).map λk=>k++": "++sL (B0 (l.fld k))):Str).length+1<=100000 from ?_))
    rw[C2,PyProof.Rows.cps_toList_append,length_append,ej];show 1+_+1<=100000;omega
   ·have e:("{"++Txt.join ", " ((B8 l.keys).map λk=>k++": "++sL (B0 (l.fld k)))++"}" : Str)=sL (B0 (.dic l)):=gQ (by
     rw[PyProof.Rows.cps_toList_append,PyProof.Rows.cps_toList_append,ej,en];rfl)
    rw[e];exact q _ ((SX1.trans sx).trans (Same.x s2)) (tab'.mono s2)
theorem IB{Pt:Addr}:FnOk P w K mg base B9 5 f fd ["_law_thing_here"] (oV Pt 0):=⟨λvs H Q E h=>h.elim,λA outer s H args us vs Q E _ _ _ _ h=>h.elim⟩
theorem Aa{Pt:Addr}(F:Fun K "_law_text" "_law_text" bS f fd)(B:Blt mg)(bF:Binds K fd ["_law_thing_here"] [])(kF:keepIn K (.ref f)=true)(mF:mg "_law_text"=some (.ref f))(h_l_in_order:C4 P w K mg base "_law_in_order" 4 ["_law_names"] (oS Pt)):∀d:Nat,d<=19->FnOk P w K mg base B9 (d+6) f fd ["_law_thing_here"] (eE Pt d)
 |0,_=>zZ (d:=0) (!3) F B h_l_in_order ⟨f,fd,IB,bF,kF,mF⟩
 |d+1,h=>zZ (d:=d+1) h F B h_l_in_order ⟨f,fd,Aa F B bF kF mF h_l_in_order d (!1),bF,kF,mF⟩
end
end K03
namespace K03
open PySem L2 Rg
section
variable{P:Program}{w:World}{K:Frag}{mg:Str->Option Value}{base:Heap}{f:Addr}{fd:FuncData}
def M2(t:Th)(n:Int):Nat->Th
 |0=>t
 |k+1=>if B2 n (0+(k:Int)) % 3=0 then .dic (.cons (J0 (B2 n (50+(0+(k:Int))))) (M2 t n k) .nil)else .row (.cons Str.empty (M2 t n k) .nil)
theorem Ab{t:Th}(h:t.Gn)(n:Int):∀k:Nat,(M2 t n k).Gn/\(M2 t n k).size=t.size+k/\(M2 t n k).dp=t.dp+k
 |0=>⟨h,rfl,rfl⟩
 |k+1=>by
  obtain⟨h1,h2,h3⟩:=Ab h n k;unfold M2;split
  ·exact⟨⟨by show 1<=100;decide,by show[_].Nodup;simp,aD (M6 _ _),h1,trivial⟩,by show((M2 t n k).size+0)+1=_;omega,by show max (M2 t n k).dp 0+1=_;omega⟩
  ·exact⟨⟨rfl,h1,trivial⟩,by show((M2 t n k).size+0)+1=_;omega,by show max (M2 t n k).dp 0+1=_;omega⟩
def Ac:Sp:=λvs H Q _=>∃(G:Hp)(t:Th)(v:V)(n:Int)(d:Nat),vs=[v,.int n,.int (d:Nat)]/\d<=20/\Same G H/\Rep (C6 G H) t v/\∀(v':V)(H':Hp),Same H H'->Rep (C6 G H') (M2 t n d) v'->Q v' H'
theorem Ad:FnScope ["_law_thing_here","_law_number_here","_law_deep","_law_k"] ["_law_thing_here","_law_number_here","_law_deep"] (B4 nZ):=by walk_at"sc"
theorem IC(F:Fun K "_law_wrapped" "_law_wrapped" nZ f fd)(B:Blt mg)(h_l_mixed:C4 P w K mg base "_law_mixed" 1 ["_law_number_here","_law_k"] bW)(h_l_name:C4 P w K mg base "_law_name" 1 ["_law_number_here"] bX):FnOk P w K mg base B9 2 f fd ["_law_thing_here","_law_number_here","_law_deep"] Ac:=by
 refine F.ok Ad (by walk_at"ln") (λcdv A outer s H vs Q E hr h=>?_);obtain⟨G,t,v,n,d,rfl,hd,sG,rep,q⟩:=h;have hu:=F6 hr;have nd:=Ad.nd;refine F8 (A5 (bB PassesOwn.never rfl (aZ rfl B.range (A0 (qv 2) A1)) (U9 (i:=3) nd rfl (Or.inl rfl)) (A8 (C5 (J1 O2 (A3 G3 (C1 h_l_mixed hr (!3) rfl (A0 (qv 1) (A0 (qv 3) A1))) A2) A2 rfl) (A8 (C8 (i:=0) nd rfl (Or.inl rfl) (GY (GX (C1 h_l_name hr (!3) rfl (A0 (C1 h_l_mixed hr (!3) rfl (A0 (qv 1) (A0 (A3 (E3 K) A2 (qv 3)) A1))) A1)) (qv 0) GW)))) (A8 (C8 (i:=0) nd rfl (Or.inl rfl) (O0 (A0 (qv 0) A1)))))))
  (A8 (B7 (qv 0)))) ?_
 refine⟨_,rfl,(d:Nat),rfl,!1,!1,aW (aX (lo:=0) (n:=((d:Nat):Int).toNat)) (λi σ H'=>∃(x3:Option V)(v':V),σ=[some v',some (.int n),some (.int (d:Nat)),x3]/\Same H H'/\Rep (C6 G H') (M2 t n i) v') ⟨_,v,rfl,Same.refl H,rep⟩ (λi σ H' hi p=>trivial) (λi x σ H1 H2 hi p y=>?_) (fun σ H' p=>?_)⟩
 ·obtain⟨rfl,rfl⟩:=y
  obtain⟨x3,v',rfl,sm,rp⟩:=p;have hi':i<d:=by omega
  have gf:∀{p:Addr},H2 p=none->G p=none:=λhp=>(sG.trans sm).free hp
  refine⟨_,rfl,_,rfl,n,_,rfl,!1,!1,_,_,rfl,rfl,(by show(0:Int)<3;decide),rfl,_,rfl,?_⟩;by_cases h3:B2 n (0+(i:Int)) % 3=0
  ·refine M8 (decide_eq_true (congrArg V.int h3)) λp hp=>?_
   refine⟨_,rfl,_,rfl,L0 ⟨n,_,rfl,!1,!1,_,rfl,M6 _ _,_,rfl,A6,[(Sum.inr (J0 (B2 n (50+(0+(i:Int))))),v')],rfl,(by show 1<=15;decide),?_⟩⟩;have s3:Same H2 (upd (upd H2 p (.dK [])) p (.dK (W2 [] [(Sum.inr (J0 (B2 n (50+(0+(i:Int))))),v')]))):=V4 (C3 hp _) hp;have e3:upd (upd H2 p (.dK [])) p (.dK (W2 [] [(Sum.inr (J0 (B2 n (50+(0+(i:Int))))),v')])) p=some (.dK [(Sum.inr (J0 (B2 n (50+(0+(i:Int))))),v')]):=A6;generalize upd (upd H2 p (.dK [])) p (.dK (W2 [] [(Sum.inr (J0 (B2 n (50+(0+(i:Int))))),v')]))=H3 at s3 e3 ⊢;refine⟨_,.ref p,rfl,sm.trans s3,?_⟩;have ew:M2 t n (i+1)=.dic (.cons (J0 (B2 n (50+(0+(i:Int))))) (M2 t n i) .nil):=by
    show(if _ then _ else _)=_;rw[if_pos h3]
   rw[ew];exact⟨p,_,rfl,O4 (gf hp) e3,⟨_,_,rfl,rp.mono (S7 s3),rfl⟩⟩
  ·refine P0 (decide_eq_false (λz=>h3 (V.int.inj z))) ⟨_,rfl,(by show 1<=sizeLine;decide),λp hp=>?_⟩
   have s3:=C3 hp (.lst [v']);have e3:upd H2 p (.lst [v']) p=some (.lst [v']):=A6;generalize upd H2 p (.lst [v'])=H3 at s3 e3 ⊢;refine⟨_,.ref p,rfl,sm.trans s3,?_⟩;have ew:M2 t n (i+1)=.row (.cons Str.empty (M2 t n i) .nil):=by
    show(if _ then _ else _)=_;rw[if_neg h3]
   rw[ew];exact⟨p,_,rfl,O4 (gf hp) e3,⟨_,_,rfl,rp.mono (S7 s3),rfl⟩⟩
 ·obtain⟨x3,v',rfl,sm,rp⟩:=p
  rw[show((d:Nat):Int).toNat=d by omega]at rp;exact⟨_,rfl,q v' H' sm rp⟩
end
end K03
namespace K03
open PySem L2 Rg
section
variable{P:Program}{w:World}{K:Frag}{mg:Str->Option Value}{base:Heap}{f:Addr}{fd:FuncData}
theorem Ae{α:Type}(l:List α)(g:α->V)(d:α){j:Int}(h0:0<=j)(h1:j<(l.length:Int)):M7 (l.map g) j=some (g (l.getD j.toNat d)):=by
 obtain⟨m,rfl⟩:∃m:Nat,j=(m:Int):=⟨j.toNat,!1⟩
 refine cI ?_;rw[getElem?_map,toNat_natCast,getD_eq_getElem?_getD,getElem?_eq_getElem (!1)];rfl
def V9(n:Int):Int:=([99,98,n / 12 % 100]:List Int).getD (n / 4 % 3).toNat 0
theorem Af(n:Int):0<=V9 n/\V9 n<=99:=by
 unfold V9;rcases(show(n / 4 % 3).toNat=0∨(n / 4 % 3).toNat=1∨(n / 4 % 3).toNat=2 by omega)with e|e|e
 ·rw[e];show 0<=(99:Int)/\(99:Int)<=99;decide
 ·rw[e];show 0<=(98:Int)/\(98:Int)<=99;decide
 ·rw[e];show 0<=n / 12 % 100/\n / 12 % 100<=99;omega
def T3(n c:Int):Th:=
 if n % 2=0 then .row (O7 (λk=>.num (N3 (B2 n (0+(k:Int))) (c / (0+(k:Int)+1)))) (V9 n).toNat)
 else .dic (M1 (λk=>(J0 (B2 n (0+(k:Int))),.num (N3 (B2 n (200+(0+(k:Int)))) (c / (0+(k:Int)+1))))) (V9 n).toNat)
theorem ID(n c:Int):(T3 n c).Gn/\(T3 n c).size<=100/\(T3 n c).dp<=2:=by
 have hm:=Af n;unfold T3;split
 ·obtain⟨h1,h2,h3⟩:=oO (g:=λk=>.num (N3 (B2 n (0+(k:Int))) (c / (0+(k:Int)+1)))) (b:=1) (d:=1) (V9 n).toNat λk _=>⟨eA _ _,le_refl _,le_refl _⟩
  exact⟨h1,by show(O7 _ _).size+1<=100;omega,by show(O7 _ _).dp+1<=2;omega⟩
 ·obtain⟨h1,h2,h3,h4,h5⟩:=eC (g:=λk=>(J0 (B2 n (0+(k:Int))),.num (N3 (B2 n (200+(0+(k:Int)))) (c / (0+(k:Int)+1))))) (b:=1) (d:=1) (V9 n).toNat λk _=>⟨aD (M6 _ _),eA _ _,le_refl _,le_refl _⟩
  exact⟨⟨!1,h2,h1⟩,by show(M1 _ _).size+1<=100;omega,by show(M1 _ _).dp+1<=2;omega⟩
theorem Ag(H:Hp)(i:Int):Rep H (.num i) (.int i):=rfl
def Ah:Sp:=λvs H Q _=>∃n c:Int,vs=[.int n,.int c]/\0<=n/\∀(v:V)(H':Hp),Same H H'->Rep (C6 H H') (T3 n c) v->Q v H'
theorem Ai:FnScope ["_law_number_here","_law_cell","_law_many","_law_made","_law_k"] ["_law_number_here","_law_cell"] (B4 iG):=by walk_at"sc"
theorem IE(F:Fun K "_law_wide" "_law_wide" iG f fd)(B:Blt mg)(h_l_mixed:C4 P w K mg base "_law_mixed" 1 ["_law_number_here","_law_k"] bW)(h_l_name:C4 P w K mg base "_law_name" 1 ["_law_number_here"] bX)(h_l_number:C4 P w K mg base "_law_number" 1 ["_law_number_here","_law_cell"] eB):FnOk P w K mg base B9 2 f fd ["_law_number_here","_law_cell"] Ah:=by
 refine F.ok Ai (by walk_at"ln") (λcdv A outer s H vs Q E hr h=>?_);obtain⟨n,c,rfl,h0,q⟩:=h;have hu:=F6 hr;have nd:=Ai.nd;have hmy:=Af n;refine F8 (A5 (C8 (i:=2) nd rfl (Or.inl rfl) (R4 K hu (O0 (A0 A2 (A0 A2 (A0 (A3 G3 (A3 L1 (qv 0) A2) A2) A1)))) (A3 G3 (A3 L1 (qv 0) A2) A2) (λ_ _=>rfl)))
  (A5 (C5 (J1 O2 (A3 G3 (qv 0) A2) A2 rfl) (A8 (B7 (W8 rfl (.inl rfl) (aZ rfl B.range (A0 (qv 2) A1)) (LcStG.ok (sc:=B4 iG) (N:=["_law_number_here","_law_cell","_law_many","_law_made","_law_k"]) (fr:=[("_law_number_here",0),("_law_cell",1)]) (by walk_at"s7") rfl rfl) (λ_ _ _ _=>W7) (λ_ _ _ _=>(C1 h_l_number hr (!3) rfl (A0 (C1 h_l_mixed hr (!3) rfl (A0 (qv 1) (A0 (qv 0) A1))) (A0 (A3 L1 (qv 2) (A3 (E3 K) (qv 0) A2)) A1))))))) C7)
  (A5 (C8 (i:=3) nd rfl (Or.inl rfl) kW)
  (A5 (bB PassesOwn.never rfl (aZ rfl B.range (A0 (qv 2) A1)) (U9 (i:=4) nd rfl (Or.inl rfl)) (A8 (gG hu (C1 h_l_number hr (!3) rfl (A0 (C1 h_l_mixed hr (!3) rfl (A0 (qv 0) (A0 (A3 (E3 K) A2 (qv 4)) A1))) (A0 (A3 L1 (qv 1) (A3 (E3 K) (qv 4) A2)) A1))) (qv 3) (C1 h_l_name hr (!3) rfl (A0 (C1 h_l_mixed hr (!3) rfl (A0 (qv 0) (A0 (qv 4) A1))) A1)))))
  (A8 (B7 (qv 3))))))) ?_
 refine⟨_,rfl,_,_,rfl,rfl,⟨!3,!3⟩,_,_,rfl,rfl,(by show(0:Int)<100;decide),(by show 3<=sizeLine;decide),λb nb=>⟨_,rfl,_,_,rfl,rfl,⟨!3,!3⟩,_,_,rfl,rfl,(by show(0:Int)<3;decide),aV (SqL.of A6) (Ae [99,98,n / 12 % 100] V.int 0 (j:=n / 4 % 3) (!1) (by show _<(3:Int);omega)) ?_⟩⟩;show aH _ _ _ (List.set _ 2 (some (V.int (V9 n)))) _;generalize hM:V9 n=M at hmy ⊢;have s0:=C3 nb (.lst [V.int 99,V.int 98,V.int (n / 12 % 100)]);generalize upd H b (.lst [V.int 99,V.int 98,V.int (n / 12 % 100)])=H0 at s0 ⊢;refine⟨_,rfl,_,_,rfl,rfl,(by show(0:Int)<2;decide),rfl,_,rfl,?_⟩;by_cases h2:n % 2=0
 ·refine M8 (decide_eq_true (congrArg V.int h2)) ?_
  refine⟨_,rfl,M,rfl,!1,!1,W6 (aX (lo:=0) (n:=M.toNat)) (λi ys H'=>Same H0 H'/\ys.length=i/\RepR (C6 H H') (O7 (λk=>.num (N3 (B2 n (0+(k:Int))) (c / (0+(k:Int)+1)))) i) ys) (N8 (!1)) ⟨Same.refl H0,rfl,rfl⟩ (λi ys H' _ p=>⟨trivial,!1⟩) (λi x ys H1 H2 hi p y=>?_) (λys H' p r hr'=>?_)⟩
  ·obtain⟨rfl,rfl⟩:=y
   obtain⟨sm,hy,hl⟩:=p;refine⟨_,rfl,rfl,_,rfl,_,rfl,n,_,rfl,!1,!1,_,rfl,_,rfl,L0 ⟨_,_,rfl,rfl,⟨!1,!1⟩,?_⟩⟩;exact⟨_,_,rfl,M6 _ _,λH3 s3=>⟨sm.trans s3,by rw[length_append,hy];rfl,RepR.snoc (Ag _ _) (hl.mono (S7 s3))⟩⟩
  ·obtain⟨sm,hy,hl⟩:=p
   have s2:=C3 hr' (.lst ys);refine q (.ref r) _ ((s0.trans sm).trans s2) ?_;have et:T3 n c=.row (O7 (λk=>.num (N3 (B2 n (0+(k:Int))) (c / (0+(k:Int)+1)))) M.toNat):=by
    unfold T3;rw[if_pos h2,hM]
   rw[et];exact⟨r,ys,rfl,O4 ((s0.trans sm).free hr') A6,hl.mono (S7 s2)⟩
 ·refine P0 (decide_eq_false (λz=>h2 (V.int.inj z))) λmd hmd=>?_
  have gm:(upd H0 md (.dK [])) md≠none:=by rw[A6];simp
  refine⟨_,rfl,M,rfl,!1,!1,aW (aX (lo:=0) (n:=M.toNat)) (λi σ' H'=>∃pk kvs,σ'=[some (.int n),some (.int c),some (.int M),some (.ref md),pk]/\Same H0 H'/\Dom (upd H0 md (.dK [])) H'/\H' md=some (.dK kvs)/\RepD (C6 (upd H0 md (.dK [])) H') (M1 (λk=>(J0 (B2 n (0+(k:Int))),.num (N3 (B2 n (200+(0+(k:Int)))) (c / (0+(k:Int)+1))))) i) kvs)
   ⟨none,[],rfl,C3 hmd _,Dom.refl _,A6,rfl⟩ (λi σ' H' hi p=>trivial) (λi x σ' H1 H2 hi p y=>?_) (fun σ' H' p=>?_)⟩
  ·obtain⟨rfl,rfl⟩:=y
   obtain⟨pk,kvs,rfl,sm,dm,hm,hl⟩:=p;obtain⟨_,hnd,hll,_,_⟩:=eC (g:=λk=>(J0 (B2 n (0+(k:Int))),.num (N3 (B2 n (200+(0+(k:Int)))) (c / (0+(k:Int)+1))))) (b:=1) (d:=1) i λk _=>⟨aD (M6 _ _),eA _ _,le_refl _,le_refl _⟩
   refine⟨_,rfl,_,rfl,L0 ⟨n,_,rfl,!1,!1,_,rfl,_,rfl,L0 ⟨_,_,rfl,rfl,⟨!1,!1⟩,?_⟩⟩⟩;refine⟨_,_,rfl,M6 _ _,λH3 s3=>⟨_,rfl,_,rfl,_,rfl,n,_,rfl,!1,!1,_,rfl,M6 _ _,?_⟩⟩;have hm3:=s3 _ _ hm;have hkl:kvs.length<=99:=by rw[hl.len];omega
   refine gA hm3 (cK (!1)) ?_;have hl3:=hl.mono (S7 (G:=upd H0 md (.dK [])) s3);refine⟨_,_,rfl,(sm.trans s3).put hmd,(dm.trans (Dom.of s3)).upd,A6,?_⟩;rw[W9 gm];exact RepD.put (Ag _ _) hnd hl3
  ·obtain⟨pk,kvs,rfl,sm,dm,hm,hl⟩:=p
   refine⟨_,rfl,q (.ref md) H' (s0.trans sm) ?_⟩;have et:T3 n c=.dic (M1 (λk=>(J0 (B2 n (0+(k:Int))),.num (N3 (B2 n (200+(0+(k:Int)))) (c / (0+(k:Int)+1))))) M.toNat):=by
    unfold T3;rw[if_neg h2,hM]
   rw[et];exact⟨md,kvs,rfl,O4 (s0.free hmd) hm,hl.mono (O5 (Dom.of (s0.trans (C3 hmd _))))⟩
end
end K03
namespace K03
open PySem L2 Rg
section
variable{P:Program}{w:World}{K:Frag}{mg:Str->Option Value}{base:Heap}{f:Addr}{fd:FuncData}
def T4(n:Int):Int:=([19,18,n / 20 % 20]:List Int).getD (n / 5 % 3).toNat 0
theorem Aj(n:Int):0<=T4 n/\T4 n<=19:=by
 unfold T4;rcases(show(n / 5 % 3).toNat=0∨(n / 5 % 3).toNat=1∨(n / 5 % 3).toNat=2 by omega)with e|e|e
 ·rw[e];show 0<=(19:Int)/\(19:Int)<=19;decide
 ·rw[e];show 0<=(18:Int)/\(18:Int)<=19;decide
 ·rw[e];show 0<=n / 20 % 20/\n / 20 % 20<=19;omega
def W0(c k:Int):Th:=
 if k=0/\B2 c k % 3=0 then T3 (B2 c k / 3) c
 else if B2 c k % 5=0 then M2 (F1 0 (B2 c k / 60) c) (B2 c k) (T4 (B2 c k)).toNat
 else F1 3 (B2 c k / 5) c
theorem IF(c k:Int):(W0 c k).Gn/\(W0 c k).size<=100/\(W0 c k).dp<=20:=by
 have h0:=M6 c k;have hd:=Aj (B2 c k);unfold W0;split
 ·obtain⟨h1,h2,h3⟩:=ID (B2 c k / 3) c
  exact⟨h1,h2,!1⟩
 split
 ·obtain⟨g1,g2,g3⟩:=eD 0 (B2 c k / 60) c (!1)
  obtain⟨h1,h2,h3⟩:=Ab g1 (B2 c k) (T4 (B2 c k)).toNat;have g2':(F1 0 (B2 c k / 60) c).size<=1:=g2;exact⟨h1,!1,!1⟩
 ·obtain⟨h1,h2,h3⟩:=eD 3 (B2 c k / 5) c (!1)
  have h2':(F1 3 (B2 c k / 5) c).size<=40:=h2;exact⟨h1,!1,!1⟩
def Ak:Sp:=λvs H Q E=>bY 0 vs H Q E∨bY 3 vs H Q E
def Al:Sp:=λvs H Q _=>∃c k:Int,vs=[.int c,.int k]/\0<=k/\k<=1000/\∀(v:V)(H':Hp),Same H H'->Rep (C6 H H') (W0 c k) v->Q v H'
theorem Am:FnScope ["_law_cell","_law_k","_law_number_here","_law_deep"] ["_law_cell","_law_k"] (B4 oA):=by walk_at"sc"
theorem IG(F:Fun K "_law_drawn" "_law_drawn" oA f fd)(B:Blt mg)(h_l_mixed:C4 P w K mg base "_law_mixed" 1 ["_law_number_here","_law_k"] bW)(h_l_wide:C4 P w K mg base "_law_wide" 2 ["_law_number_here","_law_cell"] Ah)(h_l_wrapped:C4 P w K mg base "_law_wrapped" 2 ["_law_thing_here","_law_number_here","_law_deep"] Ac)(h_l_thing:C4 P w K mg base "_law_thing" 5 ["_law_number_here","_law_cell","_law_deep"] Ak):FnOk P w K mg base B9 6 f fd ["_law_cell","_law_k"] Al:=by
 refine F.ok Am (by walk_at"ln") (λcdv A outer s H vs Q E hr h=>?_);obtain⟨c,k,rfl,hk0,hk1,q⟩:=h;have hu:=F6 hr;have nd:=Am.nd;have h0:=M6 c k;refine F8 (A5 (C8 (i:=2) nd rfl (Or.inl rfl) (C1 h_l_mixed hr (!3) rfl (A0 (qv 0) (A0 (qv 1) A1))))
  (A5 (C5 (Z4 (kZ (J1 O2 (qv 1) A2 rfl) (kY (J1 O2 (A3 G3 (qv 2) A2) A2 rfl)))) (A8 (B7 (C1 h_l_wide hr (!3) rfl (A0 (A3 L1 (qv 2) A2) (A0 (qv 0) A1))))) C7)
  (A5 (C5 (J1 O2 (A3 G3 (qv 2) A2) A2 rfl) (A5 (C8 (i:=3) nd rfl (Or.inl rfl) (R4 K hu (O0 (A0 A2 (A0 A2 (A0 (A3 G3 (A3 L1 (qv 2) A2) A2) A1)))) (A3 G3 (A3 L1 (qv 2) A2) A2) (λ_ _=>rfl)))
  (A8 (B7 (C1 h_l_wrapped hr (!3) rfl (A0 (C1 h_l_thing hr (!3) rfl (A0 (A3 L1 (qv 2) A2) (A0 (qv 0) (A0 A2 A1)))) (A0 (qv 2) (A0 (qv 3) A1))))))) C7)
  (A8 (B7 (C1 h_l_thing hr (!3) rfl (A0 (A3 L1 (qv 2) A2) (A0 (qv 0) (A0 A2 A1))))))))) ?_
 refine⟨_,rfl,_,rfl,c,k,rfl,hk0,hk1,?_⟩;have hdr:W0 c k=if k=0/\B2 c k % 3=0 then T3 (B2 c k / 3) c else if B2 c k % 5=0 then M2 (F1 0 (B2 c k / 60) c) (B2 c k) (T4 (B2 c k)).toNat else F1 3 (B2 c k / 5) c:=rfl
 have hd:=Aj (B2 c k);show aH _ _ _ (List.set _ 2 (some (V.int (B2 c k)))) _;generalize hN:B2 c k=n at h0 hdr hd ⊢;by_cases hc:k=0/\n % 3=0
 ·refine⟨_,rfl,rfl,_,rfl,M8 (decide_eq_true (congrArg V.int hc.1)) ⟨_,rfl,_,_,rfl,rfl,(by show(0:Int)<3;decide),rfl,_,rfl,M8 (decide_eq_true (congrArg V.int hc.2)) ?_⟩⟩
  rw[if_pos hc]at hdr;exact⟨_,rfl,_,_,rfl,rfl,⟨!3,!3⟩,_,rfl,n / 3,c,rfl,!1,λv H' sm rp=>q v H' sm (by rw[hdr];exact rp)⟩
 rw[if_neg hc]at hdr;refine(λtl=>⟨_,rfl,rfl,_,rfl,aP (λh1=>⟨_,rfl,_,_,rfl,rfl,(by show(0:Int)<3;decide),rfl,_,rfl,aP (λh2=>absurd ⟨V.int.inj (of_decide_eq_true h1),V.int.inj (of_decide_eq_true h2)⟩ hc) (λ_=>tl)⟩) (λ_=>B5 tl)⟩) ?_;refine⟨_,rfl,_,_,rfl,rfl,(by show(0:Int)<5;decide),rfl,_,rfl,?_⟩;by_cases h5:n % 5=0
 ·rw[if_pos h5]at hdr
  refine M8 (decide_eq_true (congrArg V.int h5)) ⟨_,rfl,_,_,rfl,rfl,⟨!3,!3⟩,_,_,rfl,rfl,(by show(0:Int)<20;decide),(by show 3<=sizeLine;decide),λb nb=>⟨_,rfl,_,_,rfl,rfl,⟨!3,!3⟩,_,_,rfl,rfl,(by show(0:Int)<3;decide),aV (SqL.of A6) (Ae [19,18,n / 20 % 20] V.int 0 (j:=n / 5 % 3) (!1) (by show _<(3:Int);omega)) ?_⟩⟩;have s0:=C3 nb (.lst [V.int 19,V.int 18,V.int (n / 20 % 20)]);refine⟨_,rfl,_,_,rfl,rfl,⟨!3,!3⟩,_,rfl,.inl ⟨n / 60,c,rfl,!1,λv H1 s1 rp=>⟨_,rfl,_,rfl,H,F1 0 (n / 60) c,v,n,(T4 n).toNat,?_,!1,s0.trans s1,rp.mono (O5 (Dom.of s0)),λv' H2 s2 rp'=>q v' H2 ((s0.trans s1).trans s2) (by rw[hdr];exact rp')⟩⟩⟩;have e:((T4 n).toNat:Int)=T4 n:=by omega
  show[v,V.int n,V.int (T4 n)]=[v,V.int n,V.int (((T4 n).toNat:Nat):Int)];rw[e]
 ·rw[if_neg h5]at hdr
  refine P0 (decide_eq_false (λz=>h5 (V.int.inj z))) ⟨_,rfl,_,_,rfl,rfl,⟨!3,!3⟩,_,rfl,.inr ⟨n / 5,c,rfl,!1,λv H' sm rp=>q v H' sm (by rw[hdr];exact rp)⟩⟩
end
end K03
namespace K03
open PySem L2 Rg
section
variable{P:Program}{w:World}{K:Frag}{mg:Str->Option Value}{base:Heap}{f:Addr}{fd:FuncData}
def oW:Sp:=λvs H Q _=>∃i:Int,vs=[.int i]/\Q (.bl true) H
theorem IH:FnScope ["_law_found"] ["_law_found"] (B4 nW):=by walk_at"sc"
theorem II(F:Fun K "_law_whole" "_law_whole" nW f fd)(B:Blt mg):FnOk P w K mg base B9 1 f fd ["_law_found"] oW:=by
 refine F.ok IH (by walk_at"ln") (λcdv A outer s H vs Q E hr h=>?_);obtain⟨i,rfl,q⟩:=h;have hu:=F6 hr;refine F8 (A8 (B7 (kU (F4 (O3 K) rfl B.isi boot_isinstance (A0 (qv 0) (A0 (N9 (v:=.ty "int") rfl B.int boot_int rfl) A1))) (kQ (EV (F4 (O3 K) rfl B.isi boot_isinstance (A0 (qv 0) (A0 (N9 (v:=.ty "bool") rfl B.bool boot_bool rfl) A1)))))))) ?_;exact⟨_,rfl,J5 (.int _) (GZ K) ⟨_,rfl,D0 ⟨_,rfl,J5 (.int _) (Ha K) ⟨_,rfl,q⟩⟩⟩⟩
end
end K03
namespace K03
open PySem L2 Rg
section
variable{P:Program}{w:World}{K:Frag}{mg:Str->Option Value}{base:Heap}{f:Addr}{fd:FuncData}
theorem An{X:Cx}(hc:X.calm=true):QC X (.builtin "sorted") xY:=⟨Hd hc⟩
def eF(d:Nat):Sp:=λvs H Q _=>∃(t t':Th)(v v':V),vs=[v,v']/\Rep H t v/\Rep H t' v'/\t.Gn/\t'.Gn/\t'.size<=100/\t'.dp<=d+1/\B6 t=B6 t'/\∀H',Same H H'->Q (.bl true) H'
def oX:Nat->Sp
 |0=>λ_ _ _ _=>False
 |d+1=>eF d
theorem oY{H:Hp}:∀{l:Ts}{xs:List V}{j:Nat}{x:V},RepR H l xs->xs[j]?=some x->∃p,l.toL[j]?=some p/\Rep H p.2 x
 |.nil,_,j,x,h,e=>by
  rw[show _=[]from h]at e;cases e
 |.cons k t r,_,j,x,h,e=>by
  obtain⟨y,ys,rfl,h1,h2⟩:=h;cases j with
  |zero=>cases e;exact⟨(k,t),rfl,h1⟩
  |succ j=>exact oY (l:=r) h2 e
theorem Ao{H:Hp}:∀{l:Ts}{kvs:List (A4×V)}{j:Nat}{kv:A4×V},RepD H l kvs->kvs[j]?=some kv->∃p,l.toL[j]?=some p/\kv.1=Sum.inr p.1/\Rep H p.2 kv.2
 |.nil,_,j,kv,h,e=>by
  rw[show _=[]from h]at e;cases e
 |.cons k t r,_,j,kv,h,e=>by
  obtain⟨y,ys,rfl,h1,h2⟩:=h;cases j with
  |zero=>cases e;exact⟨(k,t),rfl,rfl,h1⟩
  |succ j=>exact Ao (l:=r) h2 e
theorem IJ{l m:Ts}(e:B6 (.row l)=B6 (.row m)):l.toL.map (λp=>B6 p.2)=m.toL.map λp=>B6 p.2:=by
 have z:G5 l=G5 m:=Th.row.inj e;have z2:=congrArg (map (·.2)) (congrArg Ts.toL z);rw[fY,fY,map_map,map_map]at z2;exact z2
theorem IK{l m:Ts}(nl:l.keys.Nodup)(e:B6 (.dic l)=B6 (.dic m)):l.keys.Perm m.keys/\∀k∈m.keys,B6 (l.fld k)=B6 (m.fld k):=by
 have z:Ts.ofL ((B8 l.keys).map λk=>(k,(D9 l).fld k))=Ts.ofL ((B8 m.keys).map λk=>(k,(D9 m).fld k)):=Th.dic.inj e;have z2:=congrArg Ts.toL z;rw[cQ,cQ]at z2;have z3:=congrArg (map (·.1)) z2;rw[map_map,map_map]at z3;have z4:B8 l.keys=B8 m.keys:=by
  have i1:∀xs:Ts,(B8 xs.keys).map ((λx:Str×Th=>x.1) ∘ λk=>(k,(D9 xs).fld k))=B8 xs.keys:=λxs=>map_id _
  rw[i1 l,i1 m]at z3;exact z3
 have pm:l.keys.Perm m.keys:=((N6 l.keys).symm.trans (List.Perm.of_eq z4)).trans (N6 m.keys);refine⟨pm,λk hk=>?_⟩;have h1:k∈B8 m.keys:=(N6 m.keys).mem_iff.mpr hk;rw[z4]at z2;have h2:=List.map_inj_left.mp z2 k h1;have h3:(D9 l).fld k=(D9 m).fld k:=(Prod.mk.inj h2).2;rw[cS l (pm.mem_iff.mpr hk),cS m hk]at h3;exact h3
theorem Ap{H:Hp}{a:Addr}:∀{xs:List Str},H a=some (.lst (xs.map V.str))->P6 H (.lst (xs.map Dt.str)) (.ref a):=λ{xs} h=>by
 refine⟨a,_,rfl,h,?_⟩;clear h
 induction xs with
 |nil=>rfl
 |cons x xs ih=>exact⟨_,_,rfl,rfl,ih⟩
theorem oZ:∀xs:List Str,Dt.Fines (xs.map Dt.str)/\Dt.deeps (xs.map Dt.str)=0
 |[]=>⟨trivial,rfl⟩
 |x::xs=>⟨⟨trivial,(oZ xs).1⟩,by show max 0 (Dt.deeps (xs.map Dt.str))=0;rw[(oZ xs).2];rfl⟩
theorem Aq(n:Nat):(replicate n true).all id=true:=by
 induction n with
 |zero=>rfl
 |succ n ih=>rw[replicate_succ,all_cons,ih];rfl
theorem Ar:FnScope ["_law_found","_law_due"] ["_law_found","_law_due"] (B4 bU):=by walk_at"sc"
theorem As{d:Nat}(hd:d<=19)(F:Fun K "_law_alike" "_law_alike" bU f fd)(B:Blt mg)(h_l_whole:C4 P w K mg base "_law_whole" 1 ["_law_found"] oW)(h_l_alike:C4 P w K mg base "_law_alike" (d+1) ["_law_found","_law_due"] (oX d)):FnOk P w K mg base B9 (d+2) f fd ["_law_found","_law_due"] (eF d):=by
 refine F.ok Ar (by walk_at"ln") (λcdv A outer s H vs Q E hr h=>?_);obtain⟨t,t',v,v',rfl,r1,r2,g1,g2,hsz,hdp,en,q⟩:=h;have hu:=F6 hr;have nd:=Ar.nd;refine F8 (A5 (C5 (E2 K (F4 (O3 K) rfl B.isi boot_isinstance (A0 (qv 1) (A0 (N9 (v:=.ty "list") rfl B.list PyProof.Rows.boot_list rfl) A1))) (λ_=>rfl)) (A5 (C5 (Z4 (cX (P8 (E2 K (F4 (O3 K) rfl B.isi boot_isinstance (A0 (qv 0) (A0 (N9 (v:=.ty "list") rfl B.list PyProof.Rows.boot_list rfl) A1))) (λ_=>rfl))) (gE (J1 (lE hr) (F4 (V1 K) rfl B.len boot_len (A0 (qv 0) A1)) (F4 (V1 K) rfl B.len boot_len (A0 (qv 1) A1)) rfl)))) (A8 (B7 S5)) C7)
  (A8 (B7 (F4 (gJ rfl) rfl B.all PyProof.Rows.boot_all (A0 (W8 rfl (.inl rfl) (aZ rfl B.range (A0 (F4 (V1 K) rfl B.len boot_len (A0 (qv 1) A1)) A1)) (LcStG.ok (sc:=B4 bU) (N:=["_law_found","_law_due"]) (fr:=[("_law_found",0),("_law_due",1)]) (by walk_at"s7") rfl rfl) (λ_ _ _ _=>W7) (λ_ _ _ _=>(C1 h_l_alike hr (!1) rfl (A0 (R4 K hu (qv 1) (qv 0) (λ_ _=>rfl)) (A0 (R4 K hu (qv 2) (qv 0) (λ_ _=>rfl)) A1))))) A1))))) C7)
  (A5 (C5 (E2 K (F4 (O3 K) rfl B.isi boot_isinstance (A0 (qv 1) (A0 (N9 (v:=.ty "dict") rfl B.dict PyProof.Rows.boot_dict rfl) A1))) (λ_=>rfl)) (A5 (C5 (Z4 (cX (P8 (E2 K (F4 (O3 K) rfl B.isi boot_isinstance (A0 (qv 0) (A0 (N9 (v:=.ty "dict") rfl B.dict PyProof.Rows.boot_dict rfl) A1))) (λ_=>rfl))) (gE (J1 (lE hr) (F4 (An rfl) rfl B.sorted PyProof.Rows.boot_sorted (A0 (qv 0) A1)) (F4 (An rfl) rfl B.sorted PyProof.Rows.boot_sorted (A0 (qv 1) A1)) rfl)))) (A8 (B7 S5)) C7)
  (A8 (Fb (B7 (F4 (gJ rfl) rfl B.all PyProof.Rows.boot_all (A0 (W8 rfl (.inl rfl) (EZ K (qv 1)) (LcStG.ok (sc:=B4 bU) (N:=["_law_found","_law_due"]) (fr:=[("_law_found",0),("_law_due",1)]) (by walk_at"s7") rfl rfl) (λ_ _ _ _=>W7) (λ_ _ _ _=>(C1 h_l_alike hr (!1) rfl (A0 (R4 K hu (qv 1) (qv 0) (λ_ _=>rfl)) (A0 (R4 K hu (qv 2) (qv 0) (λ_ _=>rfl)) A1))))) A1)))))) C7)
  (A5 (C5 (E2 K (F4 (O3 K) rfl B.isi boot_isinstance (A0 (qv 1) (A0 (N9 (v:=.ty "str") rfl B.str boot_str rfl) A1))) (λ_=>rfl)) (A8 (B7 (kU (F4 (O3 K) rfl B.isi boot_isinstance (A0 (qv 0) (A0 (N9 (v:=.ty "str") rfl B.str boot_str rfl) A1))) (kQ (aY O2 (qv 0) (qv 1) rfl))))) C7)
  (A8 (B7 (kU (C1 h_l_whole hr (!1) rfl (A0 (qv 0) A1)) (kQ (aY O2 (qv 0) (qv 1) rfl)))))))) ?_
 have ety:=r2.ty (K:=K);have ety1:=r1.ty (K:=K);have sub:∀{c c':Th}{x x':V}{H1:Hp}{R:VK},c.Gn->c'.Gn->c'.size<=100->c'.dp<=d->B6 c=B6 c'->Rep H1 c x->Rep H1 c' x'->(∀H',Same H1 H'->R (.bl true) H')->oX d [x,x'] H1 R E0:=λ{c c' x x' H1 R} h1 h2 h0 h3 h4 h5 h6 h7=>by
  cases d with
  |zero=>have:=zX c';omega
  |succ e=>exact⟨c,c',x,x',rfl,h5,h6,h1,h2,h0,h3,h4,h7⟩
 refine⟨_,rfl,J5 ety (cO _ t') ⟨_,rfl,?_⟩⟩;cases t' with
 |num i=>
  obtain rfl:v'=.int i:=r2;have e1:t=.num i:=by cases t with
   |num j=>exact en
   |word _=>cases en
   |row _=>cases en
   |dic _=>cases en
  subst e1;obtain rfl:v=.int i:=r1;refine B5 ⟨_,rfl,J5 ety (R8 _ _) ⟨_,rfl,B5 ⟨_,rfl,J5 ety (gK _ _) ⟨_,rfl,B5 ?_⟩⟩⟩⟩;refine⟨_,rfl,⟨i,rfl,⟨_,rfl,D0 ⟨_,rfl,_,rfl,rfl,?_⟩⟩⟩⟩;rw[decide_eq_true (show V.int i=V.int i from rfl)];exact q H (Same.refl H)
 |word x=>
  obtain rfl:v'=.str x:=r2;have e1:t=.word x:=by cases t with
   |num j=>cases en
   |word _=>exact en
   |row _=>cases en
   |dic _=>cases en
  subst e1;obtain rfl:v=.str x:=r1;refine B5 ⟨_,rfl,J5 ety (R8 _ _) ⟨_,rfl,B5 ⟨_,rfl,J5 ety (gK _ _) ⟨_,rfl,D0 ?_⟩⟩⟩⟩;refine⟨_,rfl,J5 ety1 (gK _ _) ⟨_,rfl,D0 ⟨_,rfl,_,rfl,rfl,?_⟩⟩⟩;rw[decide_eq_true (show V.str x=V.str x from rfl)];exact q H (Same.refl H)
 |row m=>
  obtain⟨l,rfl⟩:∃l,t=.row l:=by cases t with
   |num j=>cases en
   |word _=>cases en
   |row l=>exact⟨l,rfl⟩
   |dic _=>cases en
  have er:=IJ en;have elen:l.toL.length=m.toL.length:=by
   have:=congrArg length er;rw[length_map,length_map]at this;exact this
  have hdp':m.dp<=d:=by have:m.dp+1<=d+1:=hdp;omega
  have gl:=dO (show l.GnR from g1);have gm:=dO (show m.GnR from g2);obtain⟨a,xs,rfl,h2,h3⟩:=(r1:∃a xs,v=V.ref a/\H a=some (.lst xs)/\RepR H l xs);obtain⟨b,ys,rfl,k2,k3⟩:=(r2:∃a xs,v'=V.ref a/\H a=some (.lst xs)/\RepR H m xs);refine D0 ⟨_,rfl,J5 ety1 (cO _ _) ⟨_,rfl,?_⟩⟩;have hxl:=h3.len;have hyl:=k3.len;have htl:=cR l;have htm:=cR m;have hsz':m.size+1<=100:=hsz;have hml:=X7 m;refine B5 ⟨_,rfl,gB (SqL.of h2) ⟨_,rfl,gB (SqL.of k2) (uD rfl ⟨_,rfl,?_⟩)⟩⟩;have elx:xs.length=ys.length:=by omega
  rw[elx,decide_eq_true (show V.int (ys.length:Int)=V.int (ys.length:Int)from rfl)];refine B5 ⟨_,rfl,gB (SqL.of k2) ⟨_,rfl,!1,!1,W6 (aX (lo:=0) (n:=ys.length)) (λi zs H'=>zs=(replicate i true).map V.bl/\Same H H') (N8 (!1)) ⟨rfl,Same.refl H⟩ (λi zs H' _ p=>⟨trivial,by obtain⟨rfl,_⟩:=p;rw[length_map,length_replicate];exact le_refl _⟩) (λi x zs H1 H2 hi p y=>?_) (λzs H' p r hr'=>?_)⟩⟩
  ·obtain⟨rfl,rfl⟩:=y
   obtain⟨rfl,sm⟩:=p;obtain⟨x,hx⟩:∃x,xs[i]?=some x:=⟨_,getElem?_eq_getElem (!1)⟩
   obtain⟨z,hz⟩:∃x,ys[i]?=some x:=⟨_,getElem?_eq_getElem (!1)⟩
   obtain⟨p,hp,rp⟩:=oY h3 hx;obtain⟨p',hp',rp'⟩:=oY k3 hz;have hpm:=mem_of_getElem? hp;have hpm':=mem_of_getElem? hp';have ee:B6 p.2=B6 p'.2:=by
    have z:=congrArg (λl=>l[i]?) er;simp only[getElem?_map,hp,hp',Option.map_some]at z;exact Option.some.inj z
   refine⟨_,rfl,rfl,_,rfl,_,rfl,aV (SqL.of (sm _ _ h2)) (by rw[Int.zero_add];exact cI hx) ⟨_,rfl,_,rfl,aV (SqL.of (sm _ _ k2)) (by rw[Int.zero_add];exact cI hz) (sub (gl p hpm).2 (gm p' hpm').2 (by have:=aE hpm';omega) (le_trans (bO.mp (le_refl _) _ hpm') hdp') ee (rp.mono sm) (rp'.mono sm) λH' s'=>⟨?_,sm.trans s'⟩)⟩⟩;rw[replicate_succ',map_append];rfl
  ·obtain⟨rfl,sm⟩:=p
   refine⟨r,replicate ys.length true,rfl,A6,?_⟩;rw[Aq];exact q _ (sm.trans (C3 hr' _))
 |dic m=>
  obtain⟨l,rfl⟩:∃l,t=.dic l:=by cases t with
   |num j=>cases en
   |word _=>cases en
   |row l=>cases en
   |dic l=>exact⟨l,rfl⟩
  have G1:=g1;have G2:=g2;obtain⟨_,nl,gl0⟩:=(g1:l.len<=100/\l.keys.Nodup/\l.GnD);obtain⟨_,nm,gm0⟩:=(g2:m.len<=100/\m.keys.Nodup/\m.GnD);have gl:=Y1 gl0;have gm:=Y1 gm0;obtain⟨pm,ef⟩:=IK nl en;have hsz':m.size+1<=100:=hsz;have esz:l.size+1=m.size+1:=by
   have:=congrArg Th.size en;rw[Z8 _ G1,Z8 _ G2]at this;exact this
  have hml:=X7 m;have hdp':m.dp<=d:=by have:m.dp+1<=d+1:=hdp;omega
  have R2:=r2;obtain⟨a,kvs,rfl,h2,h3⟩:=(r1:∃a kvs,v=V.ref a/\H a=some (.dK kvs)/\RepD H l kvs);obtain⟨b,kws,rfl,k2,k3⟩:=(r2:∃a kvs,v'=V.ref a/\H a=some (.dK kvs)/\RepD H m kvs);have hkl:=h3.len;have hwl:=k3.len;have ell:l.len=m.len:=by rw[←Ts.keys_len,←Ts.keys_len];exact pm.length_eq
  refine B5 ⟨_,rfl,J5 ety (R8 _ _) ⟨_,rfl,D0 ⟨_,rfl,J5 ety1 (R8 _ _) ⟨_,rfl,B5 ⟨_,rfl,a,kvs,rfl,h2,!1,l.keys,h3.keys,nl,λp1 hp1=>?_⟩⟩⟩⟩⟩;have s1:=C3 hp1 (.lst ((G4 F5 l.keys).map V.str));have hP1:upd H p1 (.lst ((G4 F5 l.keys).map V.str)) p1=some (.lst ((G4 F5 l.keys).map V.str)):=A6;rw[GA nB pm]at s1 hP1 ⊢;generalize upd H p1 (.lst ((G4 F5 m.keys).map V.str))=H1 at s1 hP1 ⊢;refine⟨_,rfl,b,kws,rfl,s1 _ _ k2,!1,m.keys,k3.keys,nm,λp2 hp2=>?_⟩;have s2:=C3 hp2 (.lst ((G4 F5 m.keys).map V.str));have hP2:upd H1 p2 (.lst ((G4 F5 m.keys).map V.str)) p2=some (.lst ((G4 F5 m.keys).map V.str)):=A6;have hP1':=s2 _ _ hP1;have S:=s1.trans s2;generalize upd H1 p2 (.lst ((G4 F5 m.keys).map V.str))=H2 at s2 hP2 hP1' S ⊢;have tf:=oZ (G4 F5 m.keys);refine EG (.lst ((G4 F5 m.keys).map Dt.str)) (Ap hP1') (Ap hP2) tf.1 (by show Dt.deeps _+1<=100;rw[tf.2];decide) ⟨_,rfl,B5 ?_⟩;have k2':=S _ _ k2;have h2':=S _ _ h2;have R2':=R2.mono S;refine⟨b,kws,k2',_,rfl,b,kws,rfl,k2',λo=>W6 EO (λi zs H'=>zs=(replicate i true).map V.bl/\Same (upd H2 b (.frz o (.dK kws))) H') (N8 (!1)) ⟨rfl,Same.refl _⟩ (λi zs H' _ p=>⟨p.2 _ _ A6,by obtain⟨rfl,_⟩:=p;rw[length_map,length_replicate];exact le_refl _⟩) (λi x zs H4 H5 hi p y=>?_) (λzs H' p r hr'=>?_)⟩
  ·obtain⟨rfl,kv,hkv,rfl⟩:=y
   obtain⟨rfl,sm⟩:=p;obtain⟨p,hp,ek,_⟩:=Ao k3 hkv;rw[ek];have hpm:p.1∈m.keys:=by rw[←tW];exact List.mem_map_of_mem (mem_of_getElem? hp)
   have hpl:p.1∈l.keys:=pm.mem_iff.mpr hpm;obtain⟨y1,hy1,ry1⟩:=h3.val (cP l hpl);obtain⟨y2,hy2,ry2⟩:=k3.val (cP m hpm);have ml:=Y2 l hpl;have mm:=Y2 m hpm;have oth:∀{c:Th}{y:V},c.size<=m.size->Rep H c y->Rep H5 c y:=λ{c y} hc hy=>(Rep.other (o:=.frz o (.dK kws)) (n:=m.size+1) (λu hu'=>le_of_eq (Rep.inj R2' hu')) (!1) (hy.mono S)).mono sm
   have rd2:Rd H5 b (.dK kws):=.inr ⟨o,sm _ _ A6⟩;have rd1:Rd H5 a (.dK kvs):=by
    by_cases e:a=b
    ·rw[e]at h2' ⊢
     rw[k2']at h2';cases h2';exact rd2
    ·exact .inl (sm _ _ (J6 e h2'))
   have c1:(l.fld p.1).size<=l.size:=aE ml;have c2:(m.fld p.1).size<=m.size:=aE mm;have c3:(l.fld p.1).size<=m.size:=by omega
   have c4:(m.fld p.1).size<=100:=by omega
   refine⟨_,rfl,rfl,_,rfl,_,rfl,uX rd1 hy1 ⟨_,rfl,_,rfl,uX rd2 hy2 (sub (gl _ ml).2 (gm _ mm).2 c4 (le_trans (bO.mp (le_refl _) _ mm) hdp') (ef _ hpm) (oth c3 ry1) (oth c2 ry2) λH' s'=>⟨?_,sm.trans s'⟩)⟩⟩;rw[replicate_succ',map_append];rfl
  ·obtain⟨rfl,sm⟩:=p
   have sr:=C3 hr' (.lst ((replicate kws.length true).map V.bl));have sm':=sm.trans sr;refine⟨r,replicate kws.length true,rfl,A6,o,sm' _ _ A6,?_⟩;rw[Aq];exact q _ (S.trans (sm'.thaw k2'))
theorem IL:FnOk P w K mg base B9 1 f fd ["_law_found","_law_due"] (oX 0):=⟨λvs H Q E h=>h.elim,λA outer s H args us vs Q E _ _ _ _ h=>h.elim⟩
theorem At(F:Fun K "_law_alike" "_law_alike" bU f fd)(B:Blt mg)(bF:Binds K fd ["_law_found","_law_due"] [])(kF:keepIn K (.ref f)=true)(mF:mg "_law_alike"=some (.ref f))(h_l_whole:C4 P w K mg base "_law_whole" 1 ["_law_found"] oW):∀d:Nat,d<=19->FnOk P w K mg base B9 (d+2) f fd ["_law_found","_law_due"] (eF d)
 |0,_=>As (d:=0) (!3) F B h_l_whole ⟨f,fd,IL,bF,kF,mF⟩
 |d+1,h=>As (d:=d+1) h F B h_l_whole ⟨f,fd,At F B bF kF mF h_l_whole d (!1),bF,kF,mF⟩
end
end K03
namespace K03
open PySem L2 Rg
section
variable{P:Program}{w:World}{K:Frag}{mg:Str->Option Value}{base:Heap}{f:Addr}{fd:FuncData}
theorem pA{c:Nat}(h:J2 c=true):c<128:=by
 unfold J2 at h;simp only[Bool.and_eq_true,decide_eq_true_eq]at h;omega
theorem IM{c:Nat}(h:E9 c=true):c<128:=by
 unfold E9 L3 at h;simp only[Bool.or_eq_true,Bool.and_eq_true,decide_eq_true_eq,beq_iff_eq]at h;rcases h with(h|h)|h
 ·exact pA h
 ·omega
 ·omega
theorem Au{b:Bool}{c:Nat}(h:c∈(if b=true then([]:List Nat)else[44,32])):c<128:=by
 cases b
 ·rcases mem_cons.mp h with e|e
  ·rw[e];decide
  ·rw[mem_singleton.mp e];decide
 ·cases h
mutual
theorem pB:∀t:Th,t.Wf->∀c∈t.tx,c<128
 |.num i,h,c,hc=>IM ((gT h).2.1 c hc)
 |.word x,h,c,hc=>pA ((X5 h).2 c hc)
 |.row l,h,c,hc=>by
  have hc':c∈91::(l.txR true++[93]):=hc;rcases mem_cons.mp hc' with e|e
  ·omega
  ·rcases mem_append.mp e with e|e
   ·exact Av l true h c e
   ·rw[mem_singleton.mp e];decide
 |.dic l,h,c,hc=>by
  have hc':c∈123::(l.txD true++[125]):=hc;rcases mem_cons.mp hc' with e|e
  ·omega
  ·rcases mem_append.mp e with e|e
   ·exact Aw l Str.empty true h c e
   ·rw[mem_singleton.mp e];decide
theorem Av:∀(l:Ts)(f:Bool),l.WfR->∀c∈l.txR f,c<128
 |.nil,_,_,c,hc=>by cases hc
 |.cons k t r,f,h,c,hc=>by
  have hc':c∈(if f then[]else[44,32])++(t.tx++r.txR false):=hc;rcases mem_append.mp hc' with e|e
  ·exact Au e
  ·rcases mem_append.mp e with e|e
   ·exact pB t h.2.1 c e
   ·exact Av r false h.2.2 c e
theorem Aw:∀(l:Ts)(last:Str)(f:Bool),l.WfD last->∀c∈l.txD f,c<128
 |.nil,_,_,_,c,hc=>by cases hc
 |.cons k t r,last,f,h,c,hc=>by
  have hc':c∈(if f then[]else[44,32])++(k.cps.toList++58::32::(t.tx++r.txD false)):=hc;rcases mem_append.mp hc' with e|e
  ·exact Au e
  rcases mem_append.mp e with e|e
  ·exact pA ((X5 h.1).2 c e)
  rcases mem_cons.mp e with e|e
  ·omega
  rcases mem_cons.mp e with e|e
  ·omega
  rcases mem_append.mp e with e|e
  ·exact pB t h.2.2.1 c e
  ·exact Aw r k false h.2.2.2 c e
end
theorem IN{k:Nat}{ps:List Str}{sp:Sp}(F:FnOk P w K mg base (F9 P w) k f fd ps sp):FnOk P w K mg base B9 k f fd ps (λvs H Q _=>sp vs H Q λ_ _ _=>False):=
 ⟨λvs H Q _ h=>F.len vs H Q _ h,λA outer s H args us vs Q E hr he hb hv h=>codeAny_mono (F.run A outer s H args us vs Q _ hr he hb hv h) λr s' hq=>by
  cases r with
  |ok fl=>cases fl<;>exact hq
  |error e=>
   obtain⟨_,_,_,_,_,_,_,_,_,_,_,_,_,_,_,z⟩:=hq;exact z.elim⟩
theorem IO{CX:O9}{j k:Nat}{ps:List Str}{sp sp':Sp}(F:FnOk P w K mg base CX j f fd ps sp)(G:FnOk P w K mg base CX k f fd ps sp'):FnOk P w K mg base CX (max j k) f fd ps (λvs H Q E=>sp vs H Q E∨sp' vs H Q E):=
 ⟨λvs H Q E h=>h.elim (F.len vs H Q E) (G.len vs H Q E),λA outer s H args us vs Q E hr e0 hb r h=>h.elim (F.run A outer s H args us vs Q E (hr.mono (Nat.le_max_left _ _)) e0 hb r) (G.run A outer s H args us vs Q E (hr.mono (Nat.le_max_right _ _)) e0 hb r)⟩
theorem IP(ns:List Int)(lo hi:Option Int):∃us:List Int,U7 (ns.map V.int) lo hi=us.map V.int/\us.length<=ns.length:=by
 unfold U7;rw[←map_drop,←map_take];exact⟨_,rfl,by rw[length_take,length_drop];omega⟩
theorem pC{H H':Hp}(e:SameX H H'){a:Addr}{xs:List V}(h:H a=some (.lst xs)):H' a=some (.lst xs):=e a _ h (λps z=>by cases z)
theorem Ax{G H H':Hp}(e:SameX H H'):SameX (C6 G H) (C6 G H'):=λa o h n=>by
 obtain⟨h1,h2⟩:=bD h;exact O4 h1 (e _ _ h2 n)
def Held(G H:Hp)(xs:List V):Prop:=∀x∈xs,∃(T:Addr)(y z:V)(t:Th),x=.ref T/\C6 G H T=some (.tup [y,z])/\Rep (C6 G H) (B6 t) y/\Rep (C6 G H) t z/\t.Gn/\t.size<=100/\t.dp<=20
theorem Held.mono{G H H':Hp}{xs:List V}(e:SameX (C6 G H) (C6 G H'))(h:Held G H xs):Held G H' xs:=λx hx=>by
 obtain⟨T,y,z,t,h1,h2,h3,h4,h5⟩:=h x hx;exact⟨T,y,z,t,h1,e _ _ h2 (λ_ z=>by cases z),Rep.monoX e h3,Rep.monoX e h4,h5⟩
def U4(h:Addr):Hp:=upd (λ_=>none) h (.lst [])
theorem Ay(h:Addr):U4 h h≠none:=by unfold U4;rw[A6];simp
theorem Az{h u:Addr}(e:u≠h):U4 h u=none:=by unfold U4;rw[A9 e]
theorem AA{h:Addr}{H:Hp}{o:HO}(e:H h=some o):Dom (U4 h) H:=λa z=>by
 by_cases e':a=h
 ·rw[e',e];simp
 ·exact absurd (Az e') z
theorem IQ{Pt h:Addr}{H:Hp}{xs ys:List V}(hh:H h=some (.lst xs))(t:Q9 Pt H):Q9 Pt (upd H h (.lst ys)):=by
 rcases t with t|⟨c',t1,t2⟩
 ·exact .inl (J6 (λe=>by rw[e,hh]at t;cases t) t)
 ·exact .inr ⟨c',J6 (λe=>by rw[e,hh]at t1;cases t1) t1,J6 (λe=>by rw[e,hh]at t2;cases t2) t2⟩
def iN(Pt:Addr)(K:Frag):Sp:=λvs H Q _=>∃(a:Addr)(ns:List Int),vs=[.ref a]/\SqL K H a (ns.map V.int)/\ns.length<=63/\Q9 Pt H/\∀H',Q (.bl true) H'
theorem AB:FnScope ["_law_script","_law_held","_law_k","_law_cell","_law_thing_here","_law_due","_law_told","_law_found","_law_again"] ["_law_script"] (B4 V8):=by walk_at"sc"
theorem IR{Pt:Addr}(F:Fun K "law" "law" V8 f fd)(B:Blt mg)(h_l_drawn:C4 P w K mg base "_law_drawn" 6 ["_law_cell","_law_k"] Al)(h_l_text:C4 P w K mg base "_law_text" 25 ["_law_thing_here"] (eE Pt 19))(h_l_alike:C4 P w K mg base "_law_alike" 21 ["_law_found","_law_due"] (eF 19))(h_thing_of:C4 P w K mg base "thing_of" 47 ["text"] (λvs H Q _=>zI vs H Q λ_ _ _=>False))(h_thing_text:C4 P w K mg base "thing_text" 7 ["thing"] zB):FnOk P w K mg base B9 48 f fd ["_law_script"] (iN Pt K):=by
 refine F.ok AB (by walk_at"ln") (λcdv A outer s H vs Q E hr h=>?_);obtain⟨a,ns,rfl,hS,hn,tab,q⟩:=h;have hu:=F6 hr;have nd:=AB.nd;refine F8 (A5 (C8 (i:=1) nd rfl (Or.inl rfl) (O0 A1))
  (A5 (bB PassesOwn.never rfl (EY K rfl B.enum (A0 (EX K (qv 0) uJ (gD A2)) A1)) (lB K rfl (bA (U9 (i:=2) nd rfl (Or.inl rfl)) (bA (U9 (i:=3) nd rfl (Or.inl rfl)) lA))) (A5 (C8 (i:=4) nd rfl (Or.inl rfl) (C1 h_l_drawn hr (!3) rfl (A0 (qv 3) (A0 (qv 2) A1))))
  (A5 (C8 (i:=5) nd rfl (Or.inl rfl) (C1 h_l_text hr (!3) rfl (A0 (qv 4) A1)))
  (A5 (C8 (i:=6) nd rfl (Or.inl rfl) (C1 h_thing_text hr (!3) rfl (A0 (qv 4) A1)))
  (A5 (C5 (Z4 (cX (P8 (E2 K (F4 (O3 K) rfl B.isi boot_isinstance (A0 (qv 6) (A0 (N9 (v:=.ty "str") rfl B.str boot_str rfl) A1))) (λ_=>rfl))) (cX (J1 (lE hr) (qv 6) (qv 5) rfl) (gE (P8 (E2 K (C1 h_l_alike hr (!3) rfl (A0 (qv 4) (A0 (C1 h_l_drawn hr (!3) rfl (A0 (qv 3) (A0 (qv 2) A1))) A1))) (λ_=>rfl))))))) (A8 (B7 S5)) C7)
  (A5 (C8 (i:=7) nd rfl (Or.inl rfl) (C1 h_thing_of hr (!3) rfl (A0 (qv 5) A1)))
  (A5 (C5 (P8 (E2 K (C1 h_l_alike hr (!3) rfl (A0 (qv 7) (A0 (qv 4) A1))) (λ_=>rfl))) (A8 (B7 S5)) C7)
  (A5 (O1 (M5 K PySem.F.plainAttrs_list PySem.F.slot_list_append PySem.F.type_list_append T9 (qv 1) (A0 (uK (A0 (qv 7) (A0 (qv 4) A1))) A1)))
  (A8 (C5 (E2 K (F4 (O3 K) rfl B.isi boot_isinstance (A0 (qv 4) (A0 (N9 (v:=.ty "list") rfl B.list PyProof.Rows.boot_list rfl) A1))) (λ_=>rfl)) (A5 (C8 (i:=8) nd rfl (Or.inl rfl) (C1 h_thing_of hr (!3) rfl (A0 (qv 5) A1)))
  (A8 (O1 (M5 K PySem.F.plainAttrs_list PySem.F.slot_list_append PySem.F.type_list_append T9 (qv 8) (A0 A2 A1))))) C7))))))))))
  (A5 (bB PassesOwn.never rfl (gF K (qv 1)) (lB K rfl (bA (U9 (i:=7) nd rfl (Or.inl rfl)) (bA (U9 (i:=4) nd rfl (Or.inl rfl)) lA))) (A8 (C5 (P8 (E2 K (C1 h_l_alike hr (!3) rfl (A0 (qv 7) (A0 (qv 4) A1))) (λ_=>rfl))) (A8 (B7 S5)) C7)))
  (A8 (B7 S5))))) ?_
 refine⟨zero_le _,λh hh=>?_⟩;have sh:=C3 hh (.lst []);have hh0:upd H h (.lst []) h=some (.lst []):=A6;have th:=tab.mono sh;have hS':=sh.seq hS;generalize upd H h (.lst [])=Hh at sh hh0 th hS' ⊢;refine⟨_,rfl,_,rfl,EF hS' λp hp=>?_⟩;obtain⟨us,eu,hul⟩:=IP ns none (some 40);rw[eu];have s0:=C3 hp (.lst (us.map V.int));have hp0:upd Hh p (.lst (us.map V.int)) p=some (.lst (us.map V.int)):=A6;have t0:=th.mono s0;have hh1:=s0 _ _ hh0;have nph:p≠h:=λe=>by rw[e,hh0]at hp;cases hp
 generalize upd Hh p (.lst (us.map V.int))=H0 at s0 hp0 t0 hh1 ⊢;refine⟨p,rfl,⟨_,SqL.of hp0⟩,aW (ET (xs:=us.map V.int)) (λi σ H'=>∃(x2 x3 x4 x5 x6 x7 x8:Option V)(zs:List V),σ=[some (.ref a),some (.ref h),x2,x3,x4,x5,x6,x7,x8]/\H' p=some (.lst (us.map V.int))/\Q9 Pt H'/\H' h=some (.lst zs)/\zs.length=i/\Held (U4 h) H' zs) ⟨_,_,_,_,_,_,_,[],rfl,hp0,t0,hh1,rfl,λx hx=>by cases hx⟩ (λi σ H' _ z=>?_) (λi x σ H1 H2 hi z y=>?_) (fun σ H1 z=>?_)⟩
 ·obtain⟨_,_,_,_,_,_,_,_,_,hp',_⟩:=z
  exact SqL.of hp'
 ·obtain⟨x2,x3,x4,x5,x6,x7,x8,zs,rfl,hp1,t1,hh1,hzl,held⟩:=z
  obtain⟨T,cv,rfl,hT,rfl,hx⟩:=y;obtain⟨ce,hce,rfl⟩:=uZ hx;rw[length_map]at hi;have s2:=C3 hT (.tup [.int (i:Nat),.int ce]);have hT4:upd H1 T (.tup [.int (i:Nat),.int ce]) T=some (.tup [.int (i:Nat),.int ce]):=A6;generalize upd H1 T (.tup [.int (i:Nat),.int ce])=H2 at s2 hT4 ⊢;have t2:=t1.mono s2;refine⟨T,_,rfl,SqT.of hT4,rfl,_,_,rfl,_,_,rfl,rfl,?_⟩;obtain⟨gn,hsz,hdp⟩:=IF ce (i:Nat);have wf:=bP _ gn;have nsz:=Z8 _ gn;have ndp:=mV _ hdp;have nnn:=hZ _ wf;have hln:=iB gn;have asc:Asc (sL (B0 (W0 ce (i:Nat)))):=dX.mpr (pB _ wf);have hln':(B0 (W0 ce (i:Nat))).length<=20000:=by omega
  generalize et:W0 ce (i:Nat)=t at gn hsz hdp wf nsz ndp nnn hln asc hln';refine⟨_,rfl,_,rfl,ce,(i:Nat),rfl,!1,!1,λv H3 s3 rt=>?_⟩;rw[et]at rt;refine⟨_,rfl,t,v,rfl,rt.mono V3,gn,hsz,hdp,t2.mono s3,λH4 x4' t4=>?_⟩;have rt4:Rep H4 t v:=Rep.monoX x4' (rt.mono V3);refine⟨_,rfl,t,v,rfl,rt4,gn,!1,!1,λH5 s5=>?_⟩;refine⟨_,rfl,J5 (.str _) (vA K) ⟨_,rfl,B5 ⟨_,rfl,_,rfl,uD rfl ⟨_,rfl,?_⟩⟩⟩⟩;rw[decide_eq_true (show V.str (sL (B0 t))=V.str (sL (B0 t))from rfl)];refine B5 ⟨_,rfl,_,rfl,_,rfl,ce,(i:Nat),rfl,!1,!1,λv' H6 s6 rt'=>?_⟩;rw[et]at rt';have s46:=s5.trans s6;refine⟨t,t,v,v',rfl,rt4.mono s46,rt'.mono V3,gn,gn,hsz,hdp,rfl,λH7 s7=>⟨_,rfl,B5 ?_⟩⟩;have s47:=s46.trans s7;refine⟨_,rfl,sL (B0 t),B6 t,rfl,rfl,wf,!1,ndp,asc,by show(B0 t).length<=20000;exact hln',λy H8 s8 ry=>?_⟩;have gnn:=dP _ wf (!1);refine⟨_,rfl,_,rfl,B6 t,t,y,v,rfl,ry.mono V3,(rt4.mono s47).mono s8,gnn,gn,hsz,hdp,nnn,λH9 s9=>⟨_,rfl,B5 ?_⟩⟩;have s79:=s8.trans s9;have x39:SameX H3 H9:=x4'.trans (Same.x (s47.trans s79));have x19:SameX H1 H9:=(Same.x (s2.trans s3)).trans x39;have hh9:=pC x19 hh1;have hp9:=pC x19 hp1;have t9:=t4.mono (s47.trans s79);refine⟨_,rfl,.inl ⟨rfl,_,SqL.of hh9⟩,_,rfl,_,rfl,(by show 2<=sizeLine;decide),λu hu'=>?_⟩;have su:=C3 hu' (.tup [y,v]);have hu9:upd H9 u (.tup [y,v]) u=some (.tup [y,v]):=A6;have nuh:u≠h:=λe=>by rw[e,hh9]at hu';cases hu'
  have dom2:=AA (s2 _ _ hh1);have hh7:=pC (((Same.x (s2.trans s3)).trans x4').trans (Same.x s47)) hh1;have ryn:Rep (C6 (U4 h) (upd H9 u (.tup [y,v]))) (B6 t) y:=(ry.mono (O5 (AA hh7))).mono (S7 (s9.trans su));have rtn:Rep (C6 (U4 h) (upd H9 u (.tup [y,v]))) t v:=Rep.monoX (Ax (x39.trans (Same.x su))) (rt.mono (O5 dom2));have held':Held (U4 h) (upd H9 u (.tup [y,v])) (zs++[.ref u]):=λx hx=>by
   rcases mem_append.mp hx with hx|hx
   ·exact held.mono (Ax (x19.trans (Same.x su))) x hx
   ·rw[mem_singleton.mp hx]
    exact⟨u,y,v,t,rfl,O4 (Az nuh) hu9,ryn,rtn,gn,hsz,hdp⟩
  have hh10:=su _ _ hh9;have hp10:=su _ _ hp9;have t10:=t9.mono su;generalize upd H9 u (.tup [y,v])=H10 at su hu9 held' hh10 hp10 t10 rtn ⊢;refine⟨h,zs,_,rfl,rfl,hh10,cK (!1),?_⟩;have hh11:upd H10 h (.lst (zs++[.ref u])) h=some (.lst (zs++[.ref u])):=A6;have hp11:upd H10 h (.lst (zs++[.ref u])) p=some (.lst (us.map V.int)):=J6 nph hp10;have t11:Q9 Pt (upd H10 h (.lst (zs++[.ref u]))):=IQ hh10 t10;have held11:Held (U4 h) (upd H10 h (.lst (zs++[.ref u]))) (zs++[.ref u]):=by
   unfold Held;rw[W9 (Ay h)];exact held'
  have rt11:Rep (upd H10 h (.lst (zs++[.ref u]))) t v:=by
   rw[←W9 (Ay h)]at rtn;exact rtn.mono V3
  generalize upd H10 h (.lst (zs++[.ref u]))=H11 at hh11 hp11 t11 held11 rt11 ⊢;have hz':(zs++[V.ref u]).length=i+1:=by rw[length_append,hzl];rfl
  refine⟨_,rfl,J5 rt11.ty (cO _ t) ⟨_,rfl,?_⟩⟩;cases t with
  |num _=>exact B5 ⟨_,_,_,_,_,_,_,_,rfl,hp11,t11,hh11,hz',held11⟩
  |word _=>exact B5 ⟨_,_,_,_,_,_,_,_,rfl,hp11,t11,hh11,hz',held11⟩
  |dic _=>exact B5 ⟨_,_,_,_,_,_,_,_,rfl,hp11,t11,hh11,hz',held11⟩
  |row l=>
   refine D0 ⟨_,rfl,sL (B0 (.row l)),B6 (.row l),rfl,rfl,wf,!1,ndp,asc,by show(B0 (.row l)).length<=20000;exact hln',λw2 H12 s12 r12=>?_⟩;obtain⟨r,xs,rfl,hr1,hr2⟩:=(r12:∃r xs,w2=V.ref r/\C6 H11 H12 r=some (.lst xs)/\RepR (C6 H11 H12) (G5 l) xs);obtain⟨hr0,hr3⟩:=bD hr1;have hxl:=hr2.len;have hls:=X7 (G5 l);have hsz2:(G5 l).size+1=l.size+1:=nsz;have hsz3:l.size+1<=100:=hsz;have s13:Same H11 (upd H12 r (.lst (xs++[.int 7]))):=V4 s12 hr0;refine⟨_,rfl,.inl ⟨rfl,_,SqL.of hr3⟩,r,xs,_,rfl,rfl,hr3,cK (!1),?_⟩;exact⟨_,_,_,_,_,_,_,_,rfl,s13 _ _ hp11,t11.mono s13,s13 _ _ hh11,hz',held11.mono (Same.x (S7 s13))⟩
 ·obtain⟨x2,x3,x4,x5,x6,x7,x8,zs,rfl,hp1,t1,hh1,hzl,held⟩:=z
  refine⟨_,rfl,h,rfl,⟨_,SqL.of hh1⟩,aW (gC (xs:=zs)) (λi σ H'=>∃x2 x3 x4 x5 x6 x7 x8:Option V,σ=[some (.ref a),some (.ref h),x2,x3,x4,x5,x6,x7,x8]/\Same H1 H') ⟨_,_,_,_,_,_,_,rfl,Same.refl _⟩ (λi σ H' _ z=>?_) (λi x σ H2 H3 hi z y=>?_) (fun σ H2 z=>?_)⟩
  ·obtain⟨_,_,_,_,_,_,_,_,s'⟩:=z
   exact SqL.of (s' _ _ hh1)
  ·obtain⟨x2,x3,x4,x5,x6,x7,x8,rfl,s'⟩:=z
   obtain⟨rfl,hx⟩:=y;obtain⟨T,y,z,t,rfl,hT,ry,rz,gn,hsz,hdp⟩:=held x (mem_of_getElem? hx);have wf:=bP _ gn;have nsz:=Z8 _ gn;refine⟨T,_,rfl,SqT.of (s' _ _ (V3 _ _ hT)),rfl,_,_,rfl,_,_,rfl,rfl,?_⟩;refine⟨_,rfl,_,rfl,B6 t,t,y,z,rfl,(ry.mono V3).mono s',(rz.mono V3).mono s',dP _ wf (!1),gn,hsz,hdp,hZ _ wf,λH4 s4=>⟨_,rfl,B5 ⟨_,_,_,_,_,_,_,rfl,s'.trans s4⟩⟩⟩
  ·exact q H2
end
end K03
namespace K03
open PySem L2 Rg
open PySem.W
theorem IS{us:List Value}(h:us.length=1):∃a0,us=[a0]:=match us,h with|[_],_=>⟨_,rfl⟩
local macro_rules|`(tactic| walk_at"m1")=>`(tactic| exact λa a a a a a us hl=>by obtain⟨a0,e⟩:=IS hl;subst e;rfl)
theorem IT{us:List Value}(h:us.length=2):∃a0 a1,us=[a0,a1]:=match us,h with|[_,_],_=>⟨_,_,rfl⟩
local macro_rules|`(tactic| walk_at"m2")=>`(tactic| exact λa a a a a a us hl=>by obtain⟨a0,a1,e⟩:=IT hl;subst e;rfl)
theorem IU{us:List Value}(h:us.length=3):∃a0 a1 a2,us=[a0,a1,a2]:=match us,h with|[_,_,_],_=>⟨_,_,_,rfl⟩
local macro_rules|`(tactic| walk_at"m3")=>`(tactic| exact λa a a a a a us hl=>by obtain⟨a0,a1,a2,e⟩:=IU hl;subst e;rfl)
local macro_rules|`(tactic| walk_at"m")=>`(tactic| first|walk_at"m1" |walk_at"m2" |walk_at"m3")
theorem all_mk{l:PySem.W.OpenLaw}{w:World}{K:Frag}{h:Heap}{mg:Str->Option Value}{fa fl Cr c0 Pt Xn0 Xn1:Addr}(X:K.In h)(G:h.Ns mainGlobals mg)(hfa:mg "law"=some (.ref fa))
  {od an:Option Addr} {sl:Array (Option Value)} {oc kV dc pm cd ct:Value}
  (Cr_:ClsAt K "Reader" Cr) (nr:NoF K Cr ["text","place"])
  (p1:GlbAt K "is_name" iC)
  (p2:GlbAt K "is_number" iD)
  (p3:GlbAt K "word_key" nE)
  (p4:MthAt K Cr "__init__" "Reader.__init__" nK)
  (p5:MthAt K Cr "passes" "Reader.passes" nL)
  (p6:MthAt K Cr "stretch" "Reader.stretch" nM)
  (p7:MthAt K Cr "ended" "Reader.ended" nO)
  (p8:GlbAt K "must_pass" nU)
  (p9:GlbAt K "read_atom" nR)
  (p10:GlbAt K "read_field" nS)
  (p11:GlbAt K "read_row" iE)
  (p12:GlbAt K "read_record" iF)
  (p13:GlbAt K "read_thing" dU)
  (p14:GlbAt K "keys_of" nF)
  (p15:GlbAt K "parts_of" dS)
  (p16:GlbAt K "walked" nG)
  (p17:GlbAt K "size_of" nH)
  (p18:GlbAt K "spread" nJ)
  (p19:GlbAt K "thing_text" nI)
  (p20:GlbAt K "thing_of" nQ)
  (p21:GlbAt K "_law_mixed" nV)
  (p22:GlbAt K "_law_name" nX)
  (p23:GlbAt K "_law_number" nY)
  (p24:GlbAt K "_law_thing" dW)
  (pL:yA K "_law_in_order" S9 c0) (hch:codeHdIn K c0 Pt=true)
  (p26:GlbAt K "_law_text" bS)
  (p27:GlbAt K "_law_whole" nW)
  (p28:GlbAt K "_law_alike" bU)
  (p29:GlbAt K "_law_wrapped" nZ)
  (p30:GlbAt K "_law_wide" iG)
  (p31:GlbAt K "_law_drawn" oA)
  (a:nsIn K mainGlobals "law"=some (some (.ref fl))) (lo:K.lookup fl=some ⟨oc,od,.func (fnOf "law" "law" (R3 V8) (N5 V8) (B4 V8) .none kV dc pm an cd ct),sl⟩)
  (c:codeIn K cd "law"=true) (k:keepIn K (.ref fl)=true)
  (g1:∃t,nsIn K mainGlobals "LETTERS"=some (some (.str "abcdefghijklmnopqrstuvwxyz" t)))
  (g2:∃t,nsIn K mainGlobals "LONGEST_NAME"=some (some (.int 8 t)))
  (g3:∃t,nsIn K mainGlobals "FIGURES"=some (some (.str "0123456789" t)))
  (g4:∃t,nsIn K mainGlobals "MOST_FIGURES"=some (some (.int 60 t)))
  (g5:∃t,nsIn K mainGlobals "LARGEST"=some (some (.int 100 t)))
  (g6:∃t,nsIn K mainGlobals "DEEPEST"=some (some (.int 20 t)))
  (xa0:nsIn K mainGlobals "BadThing"=some (some (.ref Xn0)))
  (xa1:nsIn K mainGlobals "GateError"=some (some (.ref Xn1)))
  (xv:nsIn K mainGlobals "ValueError"=some none) (xw:keepIn K (.ref Xn0)=true) (xC1:lT K Xn0 Xn1 dE=true) (xC2:lU K Xn1 dE=true)
  (z:xZ K ["len","isinstance","list","dict","sorted","reversed","range","int","bool","str","sum","zip","abs","min","max","all","enumerate","tuple"]):
  ∃fd:FuncData,(∀(s:Shared)(v:Value),BindsTo s fd ⟨[v],[]⟩ [("_law_script",v)])/\∀base:Heap,K.In base->base.Ns mainGlobals mg->BM mg base->FnOk l.prog w K mg base B9 48 fa fd ["_law_script"] (iN Pt K):=by
 have e:=hfa.symm.trans (mg_of X G a);cases e;have F32:=fG (st:=V8) lo c k;obtain⟨f3,d3,a3,F3⟩:=p3;have b3:=F3.binds (ps:=["word"]) (by walk_at"m1");have m3:=mg_of X G a3;have k3:=F3.kp;obtain⟨f11,d11,a11,F11⟩:=p11;have b11:=F11.binds (ps:=["reader","level"]) (by walk_at"m2");have m11:=mg_of X G a11;have k11:=F11.kp;obtain⟨f12,d12,a12,F12⟩:=p12;have b12:=F12.binds (ps:=["reader","level"]) (by walk_at"m2");have m12:=mg_of X G a12;have k12:=F12.kp;obtain⟨f13,d13,a13,F13⟩:=p13;have b13:=F13.binds (ps:=["reader","level"]) (by walk_at"m2");have m13:=mg_of X G a13;have k13:=F13.kp;obtain⟨f14,d14,a14,F14⟩:=p14;have b14:=F14.binds (ps:=["holder"]) (by walk_at"m1");have m14:=mg_of X G a14;have k14:=F14.kp;obtain⟨f15,d15,a15,F15⟩:=p15;have b15:=F15.binds (ps:=["thing"]) (by walk_at"m1");have m15:=mg_of X G a15;have k15:=F15.kp;obtain⟨f24,d24,a24,F24⟩:=p24;have b24:=F24.binds (ps:=["_law_number_here","_law_cell","_law_deep"]) (by walk_at"m3");have m24:=mg_of X G a24;have k24:=F24.kp;obtain⟨f26,d26,a26,F26⟩:=p26;have b26:=F26.binds (ps:=["_law_thing_here"]) (by walk_at"m1");have m26:=mg_of X G a26;have k26:=F26.kp;obtain⟨f28,d28,a28,F28⟩:=p28;have b28:=F28.binds (ps:=["_law_found","_law_due"]) (by walk_at"m2");have m28:=mg_of X G a28;have k28:=F28.kp;have cr:ClsF K Cr ["text","place"]:=⟨Cr_.cl,nr.all⟩;obtain⟨z1,z2,z3,z4,z5,z6,z7,z8,z9,z10,z11,z12,z13,z14,z15,z16,z17,z18,_⟩:=z;obtain⟨t1,g1⟩:=g1;obtain⟨t2,g2⟩:=g2;obtain⟨t3,g3⟩:=g3;obtain⟨t4,g4⟩:=g4;obtain⟨t5,g5⟩:=g5;obtain⟨t6,g6⟩:=g6;have GL:Glo mg:=⟨⟨_,mg_of X G g1⟩,⟨_,mg_of X G g2⟩,⟨_,mg_of X G g3⟩,⟨_,mg_of X G g4⟩,⟨_,mg_of X G g5⟩,⟨_,mg_of X G g6⟩⟩;have B:Blt mg:=⟨mg_none_of X G z1,mg_none_of X G z2,mg_none_of X G z3,mg_none_of X G z4,mg_none_of X G z5,mg_none_of X G z6,mg_none_of X G z7,mg_none_of X G z8,mg_none_of X G z9,mg_none_of X G z10,mg_none_of X G z11,mg_none_of X G z12,mg_none_of X G z13,mg_none_of X G z14,mg_none_of X G z15,mg_none_of X G z16,mg_none_of X G z17,mg_none_of X G z18⟩;refine⟨fnOf "law" "law" (R3 V8) (N5 V8) (B4 V8) .none kV dc pm an cd ct,λs v=>.of_eq rfl,λbase KB _ bm=>?_⟩;have Z:Tg l.prog w K mg base:=⟨λa=>mg_of X G a⟩;have hC:=codeHd_of_K KB hch;obtain⟨fL,_,_,_,_,_,_,_,_,aL,lL,cL,kL⟩:=pL;have FL:=fG (st:=S9) lL cL kL;have mVE:=mg_none_of X G xv;have xC:XCn K Xn0 Xn1:=⟨xC1,xC2⟩;have hN:=Hl Z xa0 xw xC;have mN0:=mg_of X G xa0;have mN1:=mg_of X G xa1;have H1:=p1.has Z (λF=>Hn F B GL) (λF=>F.binds (by walk_at"m"));have H2:=p2.has Z (λF=>Hq F B GL) (λF=>F.binds (by walk_at"m"));have Q3:=HR (P:=l.prog) (w:=w) (mg:=mg) (base:=base) F3 B;have H3:C4 l.prog w K mg base "word_key" _ _ _:=⟨_,_,Q3,b3,k3,m3⟩;have H4:=p4.hasC Z Cr_ (λF=>Hr F cr) (λF=>F.binds (by walk_at"m"));have H5:=p5.has Z cr.cls (λF=>Hs F B cr) (λF=>F.binds (by walk_at"m"));have H6:=p6.has Z cr.cls (λF=>Hw F B cr) (λF=>F.binds (by walk_at"m"));have H7:=p7.has Z cr.cls (λF=>Hx F B cr) (λF=>F.binds (by walk_at"m"));have H8:=p8.hasX Z (λF=>Hy F B hN H5) (λF=>F.binds (by walk_at"m"));have H9:=p9.hasX Z (λF=>HC F B GL hN H6 H1 H2) (λF=>F.binds (by walk_at"m"));have H10:=p10.hasX Z (λF=>HD F B GL hN H6 H1 H3 H8) (λF=>F.binds (by walk_at"m"))
 skip
 skip
 have H13:M9 l.prog w K mg base "read_thing" 46 ["reader","level"] (T2 Cr Xn0 (21-(20:Nat)) (B3 20)):=⟨_,_,zH B GL hN H5 H8 H10 H9 F13 b13 k13 m13 F11 b11 k11 m11 F12 b12 k12 m12 20 (!3),b13,k13,m13⟩;have Q14:=HU (P:=l.prog) (w:=w) (mg:=mg) (base:=base) F14 B Q3 b3 m3;have H14:C4 l.prog w K mg base "keys_of" _ _ _:=⟨_,_,Q14,b14,k14,m14⟩;have H15:C4 l.prog w K mg base "parts_of" _ _ _:=⟨_,_,(HW F15 B Q14 b14 k14 m14),b15,k15,m15⟩;have H16:=p16.has Z (λF=>HX F B H15) (λF=>F.binds (by walk_at"m"));have H17:=p17.has Z (λF=>HZ F B H16) (λF=>F.binds (by walk_at"m"));have H18:=p18.has Z (λF=>Ib F B H15) (λF=>F.binds (by walk_at"m"));have H19:=p19.has Z (λF=>Ig F B H18) (λF=>F.binds (by walk_at"m"));have N1:=p20.has Z (λF=>IN (Ih F B GL hN H4 H7 H13 H17)) (λF=>F.binds (by walk_at"m"));have H21:=p21.has Z (λF=>Ii F) (λF=>F.binds (by walk_at"m"));have H22:=p22.has Z (λF=>Im F B) (λF=>F.binds (by walk_at"m"));have H23:=p23.has Z (λF=>Ip F B) (λF=>F.binds (by walk_at"m"));have H24:C4 l.prog w K mg base "_law_thing" 5 ["_law_number_here","_law_cell","_law_deep"] Ak:=⟨_,_,(let z:=Is F24 B b24 k24 m24 H21 H22 H23;IO z.1 z.2),b24,k24,m24⟩;have H25:C4 l.prog w K mg base "_law_in_order" _ _ _:=⟨fL,_,Iz lL cL B hC bm,FL.binds (ps:=["_law_names"]) (by walk_at"m"),kL,Z.m aL⟩;have H26:C4 l.prog w K mg base "_law_text" 25 ["_law_thing_here"] (eE Pt 19):=⟨_,_,Aa F26 B b26 k26 m26 H25 19 (!3),b26,k26,m26⟩;have H27:=p27.has Z (λF=>II F B) (λF=>F.binds (by walk_at"m"));have H28:C4 l.prog w K mg base "_law_alike" 21 ["_law_found","_law_due"] (eF 19):=⟨_,_,At F28 B b28 k28 m28 H27 19 (!3),b28,k28,m28⟩;have H29:=p29.has Z (λF=>IC F B H21 H22) (λF=>F.binds (by walk_at"m"));have H30:=p30.has Z (λF=>IE F B H21 H22 H23) (λF=>F.binds (by walk_at"m"));have H31:=p31.has Z (λF=>IG F B H21 H30 H29 H24) (λF=>F.binds (by walk_at"m"));exact IR (P:=l.prog) (w:=w) (mg:=mg) (base:=base) F32 B H31 H26 H28 N1 H19
theorem walk{l:PySem.W.OpenLaw}{q:Program}{loose:List Str}{XP:(Str->Option Value)->Heap->Prop}{YP:World->Heap->Prop}{d:DefRec}{K:Params->Frag}{c Pt:Addr}(hn:l.most=some 63)(hdf:d.params.defaults=[])
  (hY:∀(w:World)(h:Heap),YP w h->(K w.params).In h/\h.get? Pt=some (tabObj #[])) (hPk:∀w:World,(K w.params).lookup Pt=none) (hC:∀w:World,codeHdIn (K w.params) c Pt=true)
  (F:∀(w:World)(mg:Str->Option Value)(fa:Addr)(h:Heap),(K w.params).In h->h.Ns mainGlobals mg->mg d.name=some (.ref fa)->
   ∃fd:FuncData,(∀(s:Shared)(u:Value),BindsTo s fd ⟨[u],[]⟩ [("_law_script",u)])/\∀base:Heap,(K w.params).In base->base.Ns mainGlobals mg->BM mg base->FnOk l.prog w (K w.params) mg base B9 48 fa fd ["_law_script"] (iN Pt (K w.params))):
  PySem.W.WalkO q loose XP YP l.row.toRowW d [] (λf vs=>PySem.call f vs):=
 Rg.Hj (n:=63) (k:=48) (x:="_law_script") (CX:=λ_=>B9) (sp:=λw=>iN Pt (K w.params)) hn (!3) hdf ⟨rfl,!3,!3⟩ hY hPk hC F (λ_ _ a ns hl hO hS=>⟨a,ns,rfl,hS,hl,.inl hO.1,λ_=>rfl⟩) λ_ _ _ _ _ z=>z
end K03
open PySem PySem.W PyProof.Rows
local macro_rules|`(tactic| walk_at"k_m")=>`(tactic| (refine' Rg.Hf ?qa ?qi ?ql ?qc ?qk;(case qa=>k_is);(case qi=>k_is);(case ql=>k_is);(case qc=>k_is);(case qk=>k_is)))
local macro_rules|`(tactic| walk_at"k_g")=>`(tactic| (refine' Rg.He ?qa ?ql ?qc ?qk;(case qa=>k_is);(case ql=>k_is);(case qc=>k_is);(case qk=>k_is)))
local macro_rules|`(tactic| walk_at"k_c")=>`(tactic| (refine' Rg.Hg ?qa ?qb ?qc ?qd ?qe ?qf ?qg;(case qa=>k_is);(case qb=>k_is);(case qc=>k_is);(case qd=>k_is);(case qe=>k_is);(case qf=>k_is);(case qg=>k_is)))
local macro_rules|`(command| lay_quick $_)=>do
 let c:=`PySem.Challenge.cw_recordgate_k03_thing_texts_go_round_holds
 let mut z:=#[`PySem.Challenge.pw_recordgate_k03_thing_texts_go_round,c.str "heap_39",c.str "view_39"]
 for k in[0:600] do z:=z.push (c.str s!"o_{k}")
 for k in([]:List String) do z:=z.push (c.str k)
 let mut y:Array (Lean.TSyntax `command):=#[]
 for n in z do y:=y.push (←`(command| theorem $(Lean.mkIdent ((`_root_.PySem.W.Fast).str ("tw"++toString n.hash))) : True:=trivial))
 return Lean.mkNullNode y
lay_quick x
set_option maxRecDepth 100000 in
set_option maxHeartbeats 0 in
theorem PySem.Challenge.cw_recordgate_k03_thing_texts_go_round_holds : PySem.Challenge.rw_recordgate_k03_thing_texts_go_round.Holds := by
 w_on;o_law;k_head;(case hw=>w_witness2)
 k_fill
 refine K03.walk (l:=PySem.Challenge.rw_recordgate_k03_thing_texts_go_round) (c:=233) (Pt:=229) rfl rfl (λw h Y=>⟨km_in_of Y,km_tabs_of Y 229 (!2)⟩) (λw=>by kernel_rfl) (λw=>by kernel_rfl) ?F
 case F=>
  intro w mg fa h KX G hmg
  refine' K03.all_mk (c0:=233) (Pt:=229) KX G hmg ?Cr_ ?nr ?p1 ?p2 ?p3 ?p4 ?p5 ?p6 ?p7 ?p8 ?p9 ?p10 ?p11 ?p12 ?p13 ?p14 ?p15 ?p16 ?p17 ?p18 ?p19 ?p20 ?p21 ?p22 ?p23 ?p24 ?pL ?hch ?p26 ?p27 ?p28 ?p29 ?p30 ?p31 ?a ?lo ?c ?k ?g1 ?g2 ?g3 ?g4 ?g5 ?g6 ?xa0 ?xa1 ?xv ?xw ?xC1 ?xC2 ?z
  (case Cr_=>walk_at"k_c")
  (case nr=>exact⟨by k_is,by k_is,trivial⟩)
  (case pL=>refine' Rg.Hk ?qa ?ql ?qc ?qk;(case qa=>k_is);(case ql=>k_is);(case qc=>k_is);(case qk=>k_is))
  (case hch=>kernel_rfl)
  (case a=>k_is)
  (case lo=>k_is)
  (case c=>k_is)
  (case k=>k_is)
  (case g1=>exact⟨_,by k_is⟩)
  (case g2=>exact⟨_,by k_is⟩)
  (case g3=>exact⟨_,by k_is⟩)
  (case g4=>exact⟨_,by k_is⟩)
  (case g5=>exact⟨_,by k_is⟩)
  (case g6=>exact⟨_,by k_is⟩)
  (case xa0=>k_is)
  (case xa1=>k_is)
  (case xv=>k_is)
  (case xw=>k_is)
  (case xC1=>kernel_rfl)
  (case xC2=>kernel_rfl)
  (case z=>exact⟨by k_is,by k_is,by k_is,by k_is,by k_is,by k_is,by k_is,by k_is,by k_is,by k_is,by k_is,by k_is,by k_is,by k_is,by k_is,by k_is,by k_is,by k_is,trivial⟩)
  all_goals first|walk_at"k_g" |walk_at"k_m"

import PyProof.Rows.All
import Wide.All
import OpenK.AllK
import Wide.FinOn
import Lean
import PyProof.EqAt
import PyProof.EqKinds
import PyProof.TupleCall
import PySem.Challenge.RW_joinedever_k29_whole_answers_among_thems
import PyProof.Draws
import PyProof.ZipIter
import PyProof.TupleIter
import PyProof.ListRange
import PyProof.CollectWalk
import KE.KSortTup
import KE.KDictSum
import PyProof.Rows.Range3
import KE.KEqDict
import KE.KRevIter
import PyProof.EnumStmt
import PyProof.CallStr
import PyProof.ReprLen
import PyProof.StrLawsRepr
import Flt.Len
import PyProof.Rows.TupDisplay
import PyProof.DictTruth
set_option Elab.async false
set_option linter.all false
set_option maxRecDepth 100000
set_option maxHeartbeats 4000000
open Array (getElem?_toList length_toList toList)
open Bool (and_eq_true false_eq_true)
open PySem.Heap (IsSliceOf IsTuple SameBut get?_push_ne get?_push_of_some get?_push_size get?_update_ne lt_size size_push size_update)
open Int (emod_lt_of_pos emod_nonneg ofNat pow_succ toNat toNat_natCast)
open List (Nodup Pairwise all_cons any_cons append_assoc append_nil countP_append countP_congr drop_zero ext_getElem? filterMap_cons filter_append filter_congr filter_cons filter_nil filter_sublist find?_cons flatMap_append flatMap_cons flatten_cons foldl foldl_cons forIn_cons forIn_nil getD getD_eq_getElem?_getD getElem?_append getElem?_append_left getElem?_append_right getElem?_eq_getElem getElem?_eq_none getElem?_map getElem?_of_mem getElem?_range getElem?_replicate getElem_inj getElem_map getElem_mem getElem_of_mem length length_append length_cons length_drop length_filter_le length_map length_nil length_pos_of_mem length_range length_reverse length_set length_take length_zip map map_append map_congr_left map_cons map_map map_nil map_take mem_append mem_append_left mem_append_right mem_cons mem_cons_of_mem mem_cons_self mem_filter mem_flatMap mem_map mem_nil_iff mem_of_getElem? mem_range mem_singleton nil_append nodup_append nodup_cons nodup_nil not_mem_nil pairwise_append pairwise_cons pairwise_iff_getElem pairwise_lt_range pairwise_map pairwise_singleton range_succ replicate replicate_succ size_toArray take_add_one take_length take_of_length_le)
open Nat (le_add_right le_of_eq le_of_lt le_of_not_lt le_refl le_succ le_trans lt_irrefl lt_of_le_of_lt lt_of_lt_of_le lt_or_ge lt_succ_of_lt lt_trans min_eq_left mod_lt ne_of_gt ne_of_lt not_lt sub_lt zero_le)
open Option (getD_none isSome_iff_exists map_eq_some_iff)
open PySem.F (args_tuple_add_2 entry_tuple_add plainAttrs_dict plainAttrs_list plainAttrs_str plainAttrs_tuple slot_dict_get slot_str_index slot_tuple_add slot_tuple_count type_tuple_count)
open PySem.W (Frag callWith_K emptyDict findIn handedIn hasDictIn instObj isFn kIn_of keepIn kia_one kitOne kitx_dict kitx_list lookIn makesIn methodObj mg_none_of mg_of plainGet plainGet_of plainOver takerIn)
open PySem.Shared (TypeIs)
def Gt:=@PySem.wpAny_bind
def If:=@List.length_map
def Lt:=@PySem.Heap.get?_push_of_some
def Qa0:=@PySem.wpAny_pure
def Qa1:=@if_neg
def Qa2:=@if_pos
def Qa3:=@List.length_append
def Qa4:=@decide_eq_true_eq
def Qa5:=@PySem.Heap.get?_push_size
def Qa6:=@List.mem_cons
def Qa7:=@PySem.Heap.lt_size
def Qa8:=@List.mem_cons_of_mem
def Qa9:=@List.mem_cons_self
def Qb0:=@List.length_take
def Qb1:=@List.map_cons
def Qb2:=@List.take_add_one
def Qb3:=@PySem.sizeLine_eq
def Qb4:=@List.length_cons
def Qb5:=@List.getD_eq_getElem?_getD
def Qb6:=@PySem.wpAny_field
def Qb7:=@List.flatMap_cons
def Qb8:=@List.take_length
def Qb9:=@PySem.wpAny_holding
def Qc0:=@PySem.wpAny_newObj_type
def Qc1:=@PySem.wpAny_callSpecial?_slot
def Qc2:=@of_decide_eq_true
def Qc3:=@PySem.F.plainAttrs_list
def Qc4:=@List.pairwise_map
def Qc5:=@Nat.zero_le
def Qc6:=@List.take_of_length_le
def Qc7:=@congrArg
def Qc8:=@PySem.wpAny_typeOf
def Qc9:=@List.append_nil
def Qd0:=@PySem.wpAny_call_entry
def Qd1:=@List.length_filter_le
def Qd2:=@PySem.wpAny_seqItems
def Qd3:=@List.nodup_cons
def Qd4:=@Int.toNat_natCast
def Qd5:=@PySem.wpAny_rule
def Qd6:=@PySem.W.mg_none_of
def Qd7:=@decide_eq_false_iff_not
def Qd8:=@PySem.wpAny_truthy_bool
def Qd9:=@List.mem_nil_iff
def Qe0:=@List.length_range
def Qe1:=@Nat.lt_succ_of_lt
def Qe2:=@PySem.wpAny_setField_rec
def Qe3:=@PySem.wpAny_mono
def Qe4:=@PySem.codeAny_builtin
def Qe5:=@List.pairwise_iff_getElem
def Qe6:=@Option.isSome_iff_exists
def Qe7:=@if_true
def Qe8:=@beq_eq_false_iff_ne
def Qe9:=@List.length_nil
def Qf0:=@PySem.wpAny_pyIter_tuple
def Qf1:=@PySem.wpAny_Call_Name_kw
def Qf2:=@List.pairwise_singleton
def Qf3:=@PySem.wpAny_passesOwn
def Qf4:=@Array.getElem?_toList
def Qf5:=@List.pairwise_lt_range
def Qf6:=@Bool.and_eq_true
def Qf7:=@Int.emod_lt_of_pos
def Qf8:=@PySem.wpAny_getItem_str_slice
def Qf9:=@Bool.false_eq_true
def Qg0:=@PySem.call_meets
def Qg1:=@PySem.tupleKind_room_in1
def Qg2:=@List.pairwise_append
def Qg3:=@List.length_pos_of_mem
def Qg4:=@List.filterMap_cons
def Qg5:=@PySem.codeAny_mono
def Qg6:=@PySem.call_meetsIn
def Qg7:=@PySem.Heap.get?_push_ne
def Qg8:=@List.filter_sublist
namespace L2
open PySem PySem.Spec PyProof.Rows
abbrev Key:=Sum Int Str
def K9:Key->Value->Bool
 | .inl k,v=>Value.isInt k v
 | .inr x,v=>Value.isStrOf x v
def keyH(w:World):Key->Int
 | .inl k=>hashInt k
 | .inr x=>hashStr w x
theorem Bm:∀{k:Key} {v:Value},K9 k v=true->(∃i t,k=Sum.inl i/\v=Value.int i t)\/(∃x t,k=Sum.inr x/\v=Value.str x t)
 | .inl i,v,h=>by
  obtain⟨t,e⟩:=Value.isInt_shape (k:=i) (v:=v) h;exact .inl ⟨i,t,rfl,e⟩
 | .inr x,v,h=>by
  obtain⟨t,e⟩:=Value.isStrOf_shape (x:=x) (v:=v) h;exact .inr ⟨x,t,rfl,e⟩
theorem Xt(i:Int)(t:Tok):K9 (.inl i) (.int i t)=true:=by simp[K9,Value.isInt]
theorem Yh(x:Str)(t:Tok):K9 (.inr x) (.str x t)=true:=by simp[K9,Value.isStrOf]
theorem key_ll(a b:Int):decide ((Sum.inl a:Key)=Sum.inl b)=(a==b):=by
 by_cases e:a=b
 ·subst e;simp
 ·have h:¬(Sum.inl a:Key)=Sum.inl b:=λq=>e (Sum.inl.inj q);rw[decide_eq_false h];exact(Qe8.mpr e).symm
theorem key_rr(a b:Str):decide ((Sum.inr a:Key)=Sum.inr b)=decide (a=b):=by
 by_cases e:a=b
 ·subst e;simp
 ·have h:¬(Sum.inr a:Key)=Sum.inr b:=λq=>e (Sum.inr.inj q);rw[decide_eq_false h,decide_eq_false e]
theorem key_lr(a:Int)(b:Str):decide ((Sum.inl a:Key)=Sum.inr b)=false:=decide_eq_false (λq=>nomatch q)
theorem key_rl(a:Str)(b:Int):decide ((Sum.inr a:Key)=Sum.inl b)=false:=decide_eq_false (λq=>nomatch q)
def Bg(prog:Program)(w:World):PySem.KeyKind prog w Key where
 is:=K9
 hash:=keyH w
 inj:=λv a b ha hb=>by
  rcases Bm ha with⟨i,t,rfl,rfl⟩|⟨x,t,rfl,rfl⟩
  ·rcases Bm hb with⟨j,u,rfl,e⟩|⟨y,u,rfl,e⟩
   ·injection e with e1 _;rw[e1]
   ·exact nomatch e
  ·rcases Bm hb with⟨j,u,rfl,e⟩|⟨y,u,rfl,e⟩
   ·exact nomatch e
   ·injection e with e1 _;rw[e1]
 byValue:=λk v h=>by
  rcases Bm h with⟨i,t,rfl,rfl⟩|⟨x,t,rfl,rfl⟩<;> rfl
 pyHash:=λhv h=>by
  rcases Bm hv with⟨i,t,rfl,rfl⟩|⟨x,t,rfl,rfl⟩
  ·exact wpAny_pyHash_int h
  ·exact wpAny_pyHash_str h
 eqBool:=λhu hv h=>by
  rcases Bm hu with⟨i,t,rfl,rfl⟩|⟨x,t,rfl,rfl⟩
  ·rcases Bm hv with⟨j,u,rfl,rfl⟩|⟨y,u,rfl,rfl⟩
   ·rw[key_ll] at h;exact wpAny_eqBool_int h
   ·rw[key_lr] at h;exact SeqAt.EqAt.int_str i t y u _ _ _ _ h
  ·rcases Bm hv with⟨j,u,rfl,rfl⟩|⟨y,u,rfl,rfl⟩
   ·rw[key_rl] at h;exact SeqAt.EqAt.str_int x t j u _ _ _ _ h
   ·rw[key_rr] at h;exact wpAny_eqBool_str h
 «strs» :=λk x t v h=>by
  rcases Bm h with⟨i,u,rfl,e⟩|⟨y,u,rfl,e⟩
  ·exact nomatch e
  ·injection e with e1 _;subst e1;cases v<;> rfl
theorem Ra(prog:Program)(w:World)(i:Int)(t:Tok):(Bg prog w).is (.inl i) (.int i t)=true:=Xt i t
theorem Q3(prog:Program)(w:World)(x:Str)(t:Tok):(Bg prog w).is (.inr x) (.str x t)=true:=Yh x t
inductive V where
 |non|bl (b:Bool)|int (i:Int)|str (x:Str)|byt (b:Array UInt8)|flt (b:UInt64)|ref (a:Addr)|ty (n:String)
 deriving DecidableEq
def RelV:V->Value->Prop
 | .non,u=>u=Value.none
 | .bl b,u=>u=Value.bool b
 | .int i,u=>∃t,u=Value.int i t
 | .str x,u=>∃t,u=Value.str x t
 | .byt b,u=>∃t,u=Value.bytes b t
 | .flt b,u=>∃t,u=Value.float b t
 | .ref a,u=>u=Value.ref a
 | .ty n,u=>u=Value.type n
abbrev Vals:List V->List Value->Prop:=Paired RelV
theorem Vals.length{xs:List V}{us:List Value}(r:Vals xs us):xs.length=us.length:=Paired.length r
theorem Vals.get:∀{xs:List V} {us:List Value} {i:Nat} {x:V},Vals xs us->xs[i]? =some x->∃u,us[i]? =some u/\RelV x u
 |_,_,_,_,.nil,e=>by simp at e
 |_,_,0,_,.cons r _,e=>by simp at e;subst e;exact⟨_,rfl,r⟩
 |_,_,i+1,x,.cons _ t,e=>by
  obtain⟨u,h1,h2⟩:=Vals.get (i:=i) (x:=x) t (by simpa using e);exact⟨u,by simpa using h1,h2⟩
theorem Vals.set{x:V}{u:Value}(r:RelV x u):∀{xs:List V} {us:List Value} (i:Nat),Vals xs us->Vals (xs.set i x) (us.set i u)
 |_,_,_,.nil=> .nil
 |_,_,0,.cons _ t=> .cons r t
 |_,_,i+1,.cons q t=> .cons q (Vals.set r i t)
theorem Vals.append:∀{xs ys:List V} {us ws:List Value},Vals xs us->Vals ys ws->Vals (xs++ys) (us++ws)
 |_,_,_,_,.nil,s=>s
 |_,_,_,_,.cons r t,s=> .cons r (Vals.append t s)
theorem Vals.take:∀{xs:List V} {us:List Value} (n:Nat),Vals xs us->Vals (xs.take n) (us.take n)
 |_,_,0,_=> .nil
 |_,_,_+1,.nil=> .nil
 |_,_,n+1,.cons r t=> .cons r (Vals.take n t)
theorem Vals.drop:∀{xs:List V} {us:List Value} (n:Nat),Vals xs us->Vals (xs.drop n) (us.drop n)
 |_,_,0,r=>r
 |_,_,_+1,.nil=> .nil
 |_,_,n+1,.cons _ t=>Vals.drop n t
def RelO:Option V->Option Value->Prop
 |some v,some u=>RelV v u
 |none,none=>True
 |_,_=>False
def KV{κ:Type}:List (κ×V)->List (κ×Value)->Prop:=Paired λ(p:κ×V) (q:κ×Value)=>p.1=q.1/\RelV p.2 q.2
def kV:Key->V
 | .inl i=> .int i
 | .inr x=> .str x
inductive HO where
 |lst (xs:List V)
 |tup (xs:List V)
 |dK (kvs:List (Key×V))|dT (kvs:List (List Key×V))
 |set (S:Int->Bool) (n:Nat)
 |ins (C dx:Addr) (fs:List (Str×V))
 |own (x:Addr)
 |xd (fs:List (Str×V))
 |met (f x:Addr)
 |rng (lo hi:Int)
 |frz (o:Obj) (u:HO)
 |tbl (ps:Array Value)
 |ext (φ:Heap->Prop)
abbrev Hp:=Addr->Option HO
def upd(H:Hp)(a:Addr)(o:HO):Hp:=λb=>if b=a then some o else H b
theorem Ab{H:Hp}{a:Addr}{o:HO}:upd H a o a=some o:=by unfold upd;rw[Qa2 rfl]
theorem Ai{H:Hp}{a b:Addr}{o:HO}(h:b≠a):upd H a o b=H b:=by unfold upd;rw[Qa1 h]
theorem O1{H:Hp}{a:Addr}{o u:HO}:upd (upd H a o) a u=upd H a u:=by
 funext b;unfold upd;split<;> rfl
theorem Ar{H:Hp}{a b:Addr}{o u:HO}(h:H a=some o)(h':H b=some u)(d:o≠u):a≠b:=by
 intro e;subst e;rw[h] at h';exact d (Option.some.inj h')
theorem Al{H:Hp}{a b:Addr}{o:HO}(h:H a=some o)(h':H b=none):a≠b:=by
 intro e;subst e;rw[h] at h';cases h'
def IsTupN(h:Heap)(a:Addr)(items:Array Value):Prop:=∃o,h.get? a=some o/\o.cls= .type "tuple"/\o.dict=none/\∃n,o.data= .seq items n
theorem IsTupN.new(h:Heap)(items:Array Value):IsTupN (h.push {cls:= .type "tuple",data:= .seq items}) h.objs.size items:=⟨_,Qa5 _ rfl,rfl,rfl,_,rfl⟩
theorem IsTupN.tup{h:Heap}{a:Addr}{items:Array Value}(x:IsTupN h a items):IsTup h a items:=let ⟨o,e,c,_,n,d⟩:=x;⟨o,e,c,n,d⟩
section
variable(P:Program)(w:World)
def ObjOk(H:Hp)(h:Heap)(a:Addr):HO->Prop
 | .lst xs=>xs.length<=sizeLine/\∃(its:List Value) (n:Nat),Vals xs its/\h.get? a=some {cls:= .type "list",data:= .seq its.toArray n}
 | .tup xs=>xs.length<=sizeLine/\∃its:List Value,Vals xs its/\IsTupN h a its.toArray
 | .dK kvs=>kvs.length<=sizeLine/\(a==sysModules)=false/\∃vs,KV kvs vs/\h.DictOf (Bg P w) a vs
 | .dT kvs=>kvs.length<=sizeLine/\(a==sysModules)=false/\∃xs:List (List Key×Addr×Value),
   Paired (λ(p:List Key×V) (q:List Key×Addr×Value)=>p.1=q.1/\H q.2.1=some (.tup (p.1.map kV))/\RelV p.2 q.2.2) kvs xs/\
   ∃o es ep,h.get? a=some o/\o.ExactDict/\o.data= .dict es ep/\es.toList=xs.map (entryOfKey (tupleKind (Bg P w)))/\(xs.map (·.1)).Nodup
 | .set S n=>h.SetOf (intKind P w) a S n
 | .ins C dx fs=>H dx=some (.own a)/\fs.length<=1000/\dx≠a/\h.get? a=some (instObj C dx)/\
   ∃mA,h.Ns1 dx mA/\(∀f,RelO (fs.lookup f) (mA f))/\PySem.Within mA (fs.map (·.1))
 | .own _=>∃o,h.get? a=some o
 | .xd fs=>∃mA,h.Ns1 a mA/\∀f,RelO (fs.lookup f) (mA f)
 | .rng lo hi=>∃t u v,h.get? a=some {cls:= .type "range",data:= .fields #[.int lo t,.int hi u,.int 1 v]}
 | .frz o u=>h.get? a=some o/\ObjOk H h a u
 | .tbl ps=>h.get? a=some {cls:= .none,data:= .fields ps}
 | .met f x=>h.get? a=some (methodObj (.ref f) (.ref x))
 | .ext φ=>φ h/\(∃o,h.get? a=some o)/\∀h1 h2:Heap,φ h1->(∀o,h1.get? a=some o->h2.get? a=some o)->φ h2
def HOk(H:Hp)(h:Heap):Prop:=∀a o,H a=some o->ObjOk P w H h a o
end
section
variable{P:Program}{w:World}{H H':Hp}{h h':Heap}{a:Addr}{o:HO}
theorem ObjOk.lt(x:ObjOk P w H h a o):a<h.objs.size:=by
 cases o with
 |lst xs=>obtain⟨_,_,_,_,e⟩:=x;exact Qa7 e
 |tup xs=>obtain⟨_,_,_,p⟩:=x;exact p.tup.lt
 |dK kvs=>obtain⟨_,_,_,_,o,_,_,e,_⟩:=x;exact Qa7 e
 |dT kvs=>obtain⟨_,_,_,_,o,_,_,e,_⟩:=x;exact Qa7 e
 |set S n=>obtain⟨o,_,_,_,e,_⟩:=x;exact Qa7 e
 |ins C dx fs=>obtain⟨_,_,_,e,_⟩:=x;exact Qa7 e
 |own y=>obtain⟨_,e⟩:=x;exact Qa7 e
 |xd fs=>obtain⟨_,⟨_,_,_,e,_⟩,_⟩:=x;exact Qa7 e
 |rng lo hi=>obtain⟨_,_,_,e⟩:=x;exact Qa7 e
 |frz ob u=>obtain⟨e,_⟩:=x;exact Qa7 e
 |tbl ps=>exact Qa7 (show h.get? a=some _ from x)
 |met f y=>exact Qa7 (show h.get? a=some _ from x)
 |ext φ=>obtain⟨_,⟨_,e⟩,_⟩:=x;exact Qa7 e
theorem Paired.mapP{α β:Type}{F G:α->β->Prop}:∀{l₁:List α} {l₂:List β},Paired F l₁ l₂->(∀a b,F a b->G a b)->Paired G l₁ l₂
 |_,_,.nil,_=> .nil
 |_,_,.cons r t,f=> .cons (f _ _ r) (Paired.mapP t f)
theorem ObjOk.stay(x:ObjOk P w H h a o)(k:∀b u,(b=a\/H b=some (.own a))->h.get? b=some u->h'.get? b=some u)(ho:∀b,H b=some (.own a)->H' b=some (.own a))(ht:∀b xs,H b=some (.tup xs)->H' b=some (.tup xs)):ObjOk P w H' h' a o:=by
 induction o with
 |lst xs=>obtain⟨z,its,n,r,e⟩:=x;exact⟨z,its,n,r,k _ _ (.inl rfl) e⟩
 |tup xs=>obtain⟨z,its,r,ob,e,c⟩:=x;exact⟨z,its,r,ob,k _ _ (.inl rfl) e,c⟩
 |dK kvs=>obtain⟨z,y,vs,r,ob,es,ep,e,c⟩:=x;exact⟨z,y,vs,r,ob,es,ep,k _ _ (.inl rfl) e,c⟩
 |dT kvs=>
  obtain⟨z,y,xs,r,ob,es,ep,e,c⟩:=x;exact⟨z,y,xs,Paired.mapP r λp q z=>⟨z.1,ht _ _ z.2.1,z.2.2⟩,ob,es,ep,k _ _ (.inl rfl) e,c⟩
 |set S n=>obtain⟨ob,es,ep,t,e,c⟩:=x;exact⟨ob,es,ep,t,k _ _ (.inl rfl) e,c⟩
 |ins C dx fs=>
  obtain⟨d,z,ne,e,mA,⟨od,es,ep,e2,c⟩,r⟩:=x;exact⟨ho _ d,z,ne,k _ _ (.inl rfl) e,mA,⟨od,es,ep,k _ _ (.inr d) e2,c⟩,r⟩
 |own y=>obtain⟨ob,e⟩:=x;exact⟨ob,k _ _ (.inl rfl) e⟩
 |xd fs=>obtain⟨mA,⟨od,es,ep,e,c⟩,r⟩:=x;exact⟨mA,⟨od,es,ep,k _ _ (.inl rfl) e,c⟩,r⟩
 |rng lo hi=>obtain⟨t,u,v,e⟩:=x;exact⟨t,u,v,k _ _ (.inl rfl) e⟩
 |frz ob u ih=>obtain⟨e,q⟩:=x;exact⟨k _ _ (.inl rfl) e,ih q⟩
 |tbl ps=>
  have e:h.get? a=some {cls:= .none,data:= .fields ps}:=x;show h'.get? a=some {cls:= .none,data:= .fields ps};exact k a _ (.inl rfl) e
 |met f y=>
  have e:h.get? a=some (methodObj (.ref f) (.ref y)):=x;show h'.get? a=some (methodObj (.ref f) (.ref y));exact k a _ (.inl rfl) e
 |ext φ=>obtain⟨p,⟨o,e⟩,st⟩:=x;exact⟨st _ _ p λo q=>k _ _ (.inl rfl) q,⟨o,k _ _ (.inl rfl) e⟩,st⟩
theorem HOk.lt(x:HOk P w H h)(e:H a=some o):a<h.objs.size:=(x a o e).lt
theorem HOk.fresh(x:HOk P w H h)(e:h.objs.size<=a):H a=none:=by
 cases q:H a with
 |none=>rfl
 |some u=>exact absurd (lt_of_lt_of_le (x.lt q) e) (lt_irrefl _)
theorem HOk.kept(x:HOk P w H h)(k:∀b u,h.get? b=some u->h'.get? b=some u):HOk P w H h':=λa o e=>
 (x a o e).stay (λb u _ q=>k b u q) (λ_ q=>q) λ_ _ q=>q
theorem HOk.laid(x:HOk P w H h)(k:∀b u,h.get? b=some u->h'.get? b=some u)(hp:h.objs.size<=a)(new:ObjOk P w (upd H a o) h' a o):HOk P w (upd H a o) h':=λb u e=>by
 have hn:=x.fresh hp;by_cases hb:b=a
 ·subst hb;rw[Ab] at e;cases e;exact new
 ·rw[Ai hb] at e;exact(x b u e).stay (λc v _ q=>k c v q) (λc q=>by rw[Ai (Al q hn)];exact q) λc xs q=>by rw[Ai (Al q hn)];exact q
end
def Rd(H:Hp)(a:Addr)(u:HO):Prop:=H a=some u\/∃o,H a=some (.frz o u)
theorem Rd.ok{P:Program}{w:World}{H:Hp}{h:Heap}{a:Addr}{u:HO}(r:Rd H a u)(x:HOk P w H h):ObjOk P w H h a u:=by
 rcases r with r|⟨o,r⟩
 ·exact x a u r
 ·obtain⟨_,q⟩:=x a _ r;exact q
def Mut:Option HO->Prop
 |some (.lst _)=>True
 |some (.dK _)=>True
 |some (.dT _)=>True
 |some (.set _ _)=>True
 |some (.ins _ _ _)=>True
 |some (.ext _)=>True
 |_=>False
section
variable{P:Program}{w:World}{H:Hp}{h h':Heap}{x e:Addr}{o':HO}
theorem HOk.write(ok:HOk P w H h)(mu:Mut (H x))(he:e=x\/H e=some (.own x))(k:∀b u,b≠e->h.get? b=some u->h'.get? b=some u)(heo:∃u,h'.get? e=some u)(new:ObjOk P w (upd H x o') h' x o'):HOk P w (upd H x o') h':=λb u q=>by
 have nown:∀c y,H c=some (.own y)->c≠x:=λc y r z=>by subst z;rw[r] at mu;exact mu
 have ntup:∀c xs,H c=some (.tup xs)->c≠x:=λc xs r z=>by subst z;rw[r] at mu;exact mu
 by_cases hb:b=x
 ·subst hb;rw[Ab] at q;cases q;exact new
 ·rw[Ai hb] at q;by_cases hbe:b=e
  ·have q':H b=some (.own x):=by
    rcases he with z|z
    ·exact absurd (hbe.trans z) hb
    ·rw[hbe];exact z
   rw[q] at q';cases q';obtain⟨v,hv⟩:=heo;exact⟨v,by rw[hbe];exact hv⟩
  ·refine(ok b u q).stay (λc v hc r=>k c v ?_ r) (λc r=>by rw[Ai (nown c b r)];exact r) λc xs r=>by rw[Ai (ntup c xs r)];exact r
   rcases hc with rfl|hc
   ·exact hbe
   ·rintro rfl;rcases he with z|z
    ·exact nown c b hc z
    ·rw[hc] at z;cases z;exact hb rfl
end
structure Un(fs ex:List Addr)(H H':Hp)(h h':Heap):Prop where
 keep:∀b o,h.get? b=some o->H b=none->b ∉ fs->b ∉ ex->h'.get? b=some o
 slot:∀b o,h.get? b=some o->H b=none->b∈fs->b ∉ ex->∃sl,h'.get? b=some {o with slots:=sl}
 free:∀b o,h.get? b=some o->H b=none->b ∉ ex->H' b=none
 there:∀b o,h.get? b=some o->b ∉ ex->∃o',h'.get? b=some o'
 tups:∀b xs,H b=some (.tup xs)->H' b=some (.tup xs)
 frzs:∀b o u,H b=some (.frz o u)->H' b=some (.frz o u)
 tbls:∀b ps,H b=some (.tbl ps)->∃more,H' b=some (.tbl (ps++more))
section
variable{fs fs' ex ex':List Addr}{H H1 H2:Hp}{h h1 h2 h':Heap}{a x e:Addr}{o:HO}
theorem Un.any(u:Un fs ex H H1 h h1){b:Addr}{ob:Obj}(q:h.get? b=some ob)(n:H b=none)(hx:b ∉ ex):∃sl,h1.get? b=some {ob with slots:=sl}:=by
 by_cases hb:b∈fs
 ·exact u.slot b ob q n hb hx
 ·exact⟨ob.slots,u.keep b ob q n hb hx⟩
theorem Un.kept(k:∀b u,h.get? b=some u->h'.get? b=some u):Un fs ex H H h h':=
 ⟨λb ob q _ _ _=>k b ob q,λb ob q _ _ _=>⟨ob.slots,k b ob q⟩,λ_ _ _ n _=>n,λb ob q _=>⟨ob,k b ob q⟩,λ_ _ q=>q,λ_ _ _ q=>q,λ_ ps q=>⟨#[],by rw[q];simp⟩⟩
theorem Un.refl:Un fs ex H H h h:=Un.kept λ_ _ q=>q
theorem Un.laid(k:∀b u,h.get? b=some u->h'.get? b=some u)(hp:h.objs.size<=a)(hn:H a=none):Un fs ex H (upd H a o) h h' where
 keep:=λb u q _ _ _=>k b u q
 slot:=λb u q _ _ _=>⟨u.slots,k b u q⟩
 free:=λb u q n _=>by rw[Ai (ne_of_lt (lt_of_lt_of_le (Qa7 q) hp))];exact n
 there:=λb u q _=>⟨u,k b u q⟩
 tups:=λb xs q=>by rw[Ai (Al q hn)];exact q
 frzs:=λb u xs q=>by rw[Ai (Al q hn)];exact q
 tbls:=λb ps q=>⟨#[],by rw[Ai (Al q hn),q];simp⟩
theorem Un.write(mu:Mut (H x))(he:e=x\/H e=some (.own x))(k:∀b u,b≠e->h.get? b=some u->h'.get? b=some u)(heo:∃u,h'.get? e=some u):Un fs ex H (upd H x o) h h':=by
 have hx:∀b,H b=none->b≠x:=λb n z=>by subst z;rw[n] at mu;exact mu
 have hb:∀b,H b=none->b≠e:=λb n z=>by
  subst z;rcases he with r|r
  ·exact hx b n r
  ·rw[n] at r;cases r
 have hm:∀b u,H b=some u->¬Mut (some u)->b≠x:=λb u q nm z=>by subst z;rw[q] at mu;exact nm mu
 refine⟨λb u q n _ _=>k b u (hb b n) q,λb u q n _ _=>⟨u.slots,k b u (hb b n) q⟩,λb u q n _=>by rw[Ai (hx b n)];exact n,λb u q _=> ?_,
  λb xs q=>by rw[Ai (hm b _ q λz=>z)];exact q,λb u xs q=>by rw[Ai (hm b _ q λz=>z)];exact q,λb ps q=>⟨#[],by rw[Ai (hm b _ q λz=>z),q];simp⟩⟩
 by_cases hbe:b=e
 ·subst hbe;exact heo
 ·exact⟨u,k b u hbe q⟩
end
def trk(h:Heap)(H:Hp):List Addr:=(List.range h.objs.size).filter λa=>(H a).isSome
def O0(h:Heap)(H:Hp):Heap:=PySem.W.hideAll h (trk h H)
theorem Yf(h:Heap)(H:Hp):(O0 h H).objs.size=h.objs.size:=PySem.W.hideAll_size _ _
theorem hidT_get{h:Heap}{H:Hp}{b:Addr}{o:Obj}(e:h.get? b=some o)(n:H b=none):(O0 h H).get? b=some o:=
 PySem.W.hideAll_get _ e λhm=>by
  have q:(H b).isSome=true:=(mem_filter.mp hm).2;rw[n] at q;simp at q
theorem of_hidT{h:Heap}{H:Hp}{b:Addr}{o:Obj}(e:(O0 h H).get? b=some o):h.get? b=some o/\H b=none:=by
 have e':h.get? b=some o:=PySem.W.of_hideAll (trk h H) e;refine⟨e',?_⟩;cases q:H b with
 |none=>rfl
 |some x=>
  have hm:b∈trk h H:=mem_filter.mpr ⟨mem_range.mpr (Qa7 e'),by simp[q]⟩;have z:(O0 h H).get? b=none:=PySem.W.hideAll_none (trk h H) hm;rw[z] at e;cases e
structure Mod(K:Frag)(mg:Str->Option Value)(base:Heap):Prop where
 kin:K.In base
 glob:base.Ns mainGlobals mg
 blt:∃mb,base.Ns builtinsNs mb/\∀x:Str,x≠"__name__"->mb x=bootBuiltins x
 nolimit:base.NoLimit
structure Cx where
 prog:Program
 w:World
 K:Frag
 mg:Str->Option Value
 base:Heap
 A:Around
 N:List Str
 s₀:Shared
 H₀:Hp
 env:Env
 outer:List Env
 stack:List Env
 ex:List Addr
 fn:Str->Bool
 calm:Bool
 pn:List (Addr×Obj)
 xe:Value->Shared->Prop
def frs(l:List Env):List Addr:=l.filterMap (·.frame)
abbrev Cx.fs(X:Cx):List Addr:=frs X.outer
def Vis(sc:Scope)(x:Str):Prop:=sc.names.lookup x=some .local\/sc.names.lookup x=some .cell\/sc.names.lookup x=some .free
def Loc(sc:Scope)(x:Str):Prop:=sc.names.lookup x=some .local\/sc.names.lookup x=some .cell
def Look(env:Env)(h:Heap)(m:Str->Option Value)(x:Str)(u:Value):Prop:=
 (env.kindOf x=some .local/\m x=some u)\/((env.kindOf x=some .cell\/env.kindOf x=some .free)/\∃c,env.cells.lookup x=some c/\h.IsCell c (some u))
structure Cx.Ok(X:Cx):Prop where
 mod:Mod X.K X.mg X.base
 kind:X.env.scope.kind= .function
 glob:X.env.globals=mainGlobals
 blt:X.env.builtins=builtinsNs
 above:X.s₀.heap.objs.size<=X.env.locals
 inj:∀x y c,X.env.cells.lookup x=some c->X.env.cells.lookup y=some c->x=y
 has:∀x,(X.env.kindOf x=some .cell\/X.env.kindOf x=some .free)->∃c,X.env.cells.lookup x=some c
 cab:∀x c,X.fn x=true->X.env.cells.lookup x=some c->X.s₀.heap.objs.size<=c
 hd:X.calm=true->X.A.handled=none
 frames:X.A.frames=some X.stack
 stk:X.stack=X.outer\/(X.stack=X.env::X.outer/\X.env.frame=some X.env.locals)
 exf:∀b∈X.ex,b≠X.env.locals/\∀x c,X.env.cells.lookup x=some c->c≠b
 bs:∀b o,X.base.get? b=some o->X.s₀.heap.get? b=some o/\X.H₀ b=none
 bsz:X.base.objs.size<=X.s₀.heap.objs.size
 noex:∀b o,X.base.get? b=some o->b ∉ X.ex
 exfs:∀b∈X.ex,b ∉ X.fs
 funs:X.s₀.heap.FunFrames X.base X.outer
 frf:∀b∈X.fs,X.H₀ b=none
structure Inv(X:Cx)(pins:List (Addr×Obj))(σ:List (Option V))(H:Hp)(s:Shared):Prop where
 ok:X.Ok
 os:s.os=X.s₀.os
 bare:AllBare s.gens
 base:Un X.fs X.ex X.H₀ H X.s₀.heap s.heap
 loc:∃m,s.heap.Ns X.env.locals m/\∀(i:Nat) (x:Str) (v:V),X.N[i]? =some x->σ[i]? =some (some v)->Vis X.env.scope x->∃u,RelV v u/\Look X.env s.heap m x u
 cell:∀x c,X.env.cells.lookup x=some c->∃v,s.heap.IsCell c v
 free:H X.env.locals=none
 freeC:∀x c,X.env.cells.lookup x=some c->H c=none
 pin:∀p∈X.pn++pins,s.heap.get? p.1=some p.2/\H p.1=none/\p.1≠X.env.locals/\p.1 ∉ X.fs/\∀v,p.2.data≠ .cell v
 hok:HOk X.prog X.w H s.heap
 len:σ.length=X.N.length
section
variable{X:Cx}{pins:List (Addr×Obj)}{σ:List (Option V)}{H H':Hp}{s:Shared}{h':Heap}
theorem Cx.Ok.nofr(ok:X.Ok){b:Addr}{o:Obj}(e:X.base.get? b=some o):b ∉ X.fs:=λhb=>by
 have:=(ok.funs.mem hb).1;rw[e] at this;cases this
theorem Inv.bs(I:Inv X pins σ H s):∀b o,X.base.get? b=some o->s.heap.get? b=some o/\H b=none:=λb o e=>
 ⟨I.base.keep b o (I.ok.bs b o e).1 (I.ok.bs b o e).2 (I.ok.nofr e) (I.ok.noex b o e),I.base.free b o (I.ok.bs b o e).1 (I.ok.bs b o e).2 (I.ok.noex b o e)⟩
theorem Inv.bk(I:Inv X pins σ H s):∀b o,X.base.get? b=some o->s.heap.get? b=some o:=λb o e=>(I.bs b o e).1
theorem Inv.mod(I:Inv X pins σ H s):Mod X.K X.mg X.base:=I.ok.mod
theorem Inv.kIn(I:Inv X pins σ H s):X.K.In s.heap:=I.ok.mod.kin.keeps I.bk
theorem Inv.lt(I:Inv X pins σ H s):X.env.locals<s.heap.objs.size:=let ⟨_,hn,_⟩:=I.loc;hn.lt
theorem Inv.sz(I:Inv X pins σ H s):X.s₀.heap.objs.size<=s.heap.objs.size:=le_trans I.ok.above (le_of_lt I.lt)
theorem Inv.nofs(I:Inv X pins σ H s){a:Addr}(h:s.heap.objs.size<=a):a ∉ X.fs:=λhb=>by
 obtain⟨_,o,ho,_⟩:=I.ok.funs.mem hb;exact absurd (lt_of_lt_of_le (Qa7 ho) (le_trans I.sz h)) (lt_irrefl _)
theorem Inv.cne(I:Inv X pins σ H s):∀x c,X.env.cells.lookup x=some c->c≠X.env.locals:=λx c e z=>by
 obtain⟨v,o,ho,hd⟩:=I.cell x c e;obtain⟨m,⟨o',es,ep,ho',hd',_⟩,_⟩:=I.loc;rw[z,ho'] at ho;cases ho;rw[hd'] at hd;cases hd
theorem Inv.funs(I:Inv X pins σ H s):s.heap.FunFrames X.base X.outer:=by
 have all:∀(l:List Env),(∀b∈frs l,b∈X.fs)->X.s₀.heap.FunFrames X.base l->s.heap.FunFrames X.base l:=by
  intro l
  induction l with
  |nil=>intro _ _;trivial
  |cons env r ih=>
   intro hs hl;obtain⟨hk,⟨L,o,hf,hn,ho,hd⟩,hr⟩:=hl;have hL:L∈X.fs:=hs L (by unfold frs;rw[Qg4,hf];exact Qa9);obtain⟨sl,e⟩:=I.base.slot L o ho (I.ok.frf L hL) hL λz=>I.ok.exfs L z hL;exact⟨hk,⟨L,_,hf,hn,e,hd⟩,ih (λb hb=>hs b (by unfold frs;rw[Qg4,hf];exact Qa8 _ hb)) hr⟩
 exact all X.outer (λ_ hb=>hb) I.ok.funs
theorem Inv.stack(I:Inv X pins σ H s):s.heap.FunFrames X.base X.stack:=by
 rcases I.ok.stk with e|⟨e,hf⟩
 ·rw[e];exact I.funs
 ·rw[e];obtain⟨m,hn,_⟩:=I.loc;refine .cons (by rw[I.ok.kind];decide) hf hn ?_ I.funs;exact Heap.get?_none_of_le (le_trans I.ok.bsz I.ok.above)
theorem Inv.stkSub(I:Inv X pins σ H s):∀b∈frs X.stack,b∈X.env.locals::X.fs:=λb hb=>by
 rcases I.ok.stk with e|⟨e,hf⟩
 ·rw[e] at hb;exact Qa8 _ hb
 ·rw[e] at hb;unfold frs at hb;rw[Qg4,hf] at hb;exact hb
theorem Inv.stkFree(I:Inv X pins σ H s):∀b∈frs X.stack,H b=none:=λb hb=>by
 rcases Qa6.mp (I.stkSub b hb) with e|hb
 ·rw[e];exact I.free
 ·obtain⟨_,o,ho,_⟩:=I.ok.funs.mem hb;exact I.base.free b o ho (I.ok.frf b hb) λz=>I.ok.exfs b z hb
theorem Inv.step{g':Array GenState}{t':Nat}{d':Drawn}{ch:List Addr}(I:Inv X pins σ H s)(hch:∀b∈ch,(b∈X.ex\/X.s₀.heap.objs.size<=b)/\b≠X.env.locals/\(∀x c,X.env.cells.lookup x=some c->c≠b)/\∀p∈X.pn++pins,p.1≠b)(keep:∀b o,b≠X.env.locals->b ∉ X.fs->b ∉ ch->s.heap.get? b=some o->H b=none->h'.get? b=some o)(slot:∀b o,b≠X.env.locals->b∈X.fs->b ∉ ch->s.heap.get? b=some o->H b=none->∃sl,h'.get? b=some {o with slots:=sl})(free:∀b o,b ∉ ch->s.heap.get? b=some o->H b=none->H' b=none)(there:∀b o,b ∉ ch->s.heap.get? b=some o->∃o',h'.get? b=some o')(tups:∀b xs,H b=some (.tup xs)->H' b=some (.tup xs))(frzs:∀b o u,H b=some (.frz o u)->H' b=some (.frz o u))(tbls:∀b ps,H b=some (.tbl ps)->∃more,H' b=some (.tbl (ps++more)))(ns:∀m,s.heap.Ns X.env.locals m->h'.Ns X.env.locals m)(hok:HOk X.prog X.w H' h')(hg:AllBare g'):
  Inv X pins σ H' {s with heap:=h',gens:=g',drawn:=d',toks:=t'}:=by
 have neL:∀b o,X.s₀.heap.get? b=some o->b≠X.env.locals:=λb o e=>ne_of_lt (lt_of_lt_of_le (Qa7 e) I.ok.above);have neC:∀b o,X.s₀.heap.get? b=some o->b ∉ X.ex->b ∉ ch:=λb o e hx hb=>by
  rcases(hch b hb).1 with z|z
  ·exact hx z
  ·exact absurd (lt_of_lt_of_le (Qa7 e) z) (lt_irrefl _)
 have cellK:∀x c,X.env.cells.lookup x=some c->∀v,s.heap.IsCell c v->h'.IsCell c v:=λx c e v ⟨o,ho,hd⟩=>by
  have nch:c ∉ ch:=λz=>(hch c z).2.2.1 x c e rfl;by_cases hc:c∈X.fs
  ·obtain⟨sl,q⟩:=slot c o (I.cne x c e) hc nch ho (I.freeC x c e);exact⟨_,q,hd⟩
  ·exact⟨o,keep c o (I.cne x c e) hc nch ho (I.freeC x c e),hd⟩
 refine⟨I.ok,I.os,hg,⟨λb o e n hb hx=> ?_,λb o e n hb hx=> ?_,λb o e n hx=> ?_,λb o e hx=> ?_,λb xs e=>tups b xs (I.base.tups b xs e),λb o xs e=>frzs b o xs (I.base.frzs b o xs e),λb ps e=> ?_⟩,?_,λx c e=> ?_,?_,λx c e=> ?_,λp hp=> ?_,hok,I.len⟩
 ·exact keep b o (neL b o e) hb (neC b o e hx) (I.base.keep b o e n hb hx) (I.base.free b o e n hx)
 ·obtain⟨sl,e1⟩:=I.base.slot b o e n hb hx;obtain⟨sl',e2⟩:=slot b _ (neL b o e) hb (neC b o e hx) e1 (I.base.free b o e n hx);exact⟨sl',e2⟩
 ·obtain⟨o',e1⟩:=I.base.there b o e hx;exact free b o' (neC b o e hx) e1 (I.base.free b o e n hx)
 ·obtain⟨o',e1⟩:=I.base.there b o e hx;exact there b o' (neC b o e hx) e1
 ·obtain⟨m1,e1⟩:=I.base.tbls b ps e;obtain⟨m2,e2⟩:=tbls b _ e1;exact⟨m1++m2,by rw[e2,Array.append_assoc]⟩
 ·obtain⟨m,hn,hl⟩:=I.loc;refine⟨m,ns m hn,λi x v e1 e2 e3=> ?_⟩;obtain⟨u,r,l⟩:=hl i x v e1 e2 e3;refine⟨u,r,?_⟩;rcases l with l|⟨k,c,e,z⟩
  ·exact .inl l
  ·exact .inr ⟨k,c,e,cellK x c e _ z⟩
 ·obtain⟨v,z⟩:=I.cell x c e;exact⟨v,cellK x c e v z⟩
 ·obtain⟨m,⟨o,_,_,ho,_⟩,_⟩:=I.loc;exact free _ o (λz=>(hch _ z).2.1 rfl) ho I.free
 ·obtain⟨v,o,ho,hd⟩:=I.cell x c e;exact free c o (λz=>(hch c z).2.2.1 x c e rfl) ho (I.freeC x c e)
 ·obtain⟨e,n,ne,nf,d⟩:=I.pin p hp;have nch:p.1 ∉ ch:=λz=>(hch p.1 z).2.2.2 p hp rfl;exact⟨keep p.1 p.2 ne nf nch e n,free p.1 p.2 nch e n,ne,nf,d⟩
theorem Inv.un{t':Nat}(I:Inv X pins σ H s)(u:Un X.fs [] H H' s.heap h')(hok:HOk X.prog X.w H' h'):Inv X pins σ H' {s with heap:=h',toks:=t'}:=by
 obtain⟨m,⟨o,es,ep,ho,r⟩,_⟩:=id I.loc;obtain⟨sl,hL⟩:=u.any ho I.free (by simp);exact I.step (g':=s.gens) (d':=s.drawn) (ch:=[]) (λ_ z=>nomatch z) (λb o _ hb _ e n=>u.keep b o e n hb (by simp)) (λb o _ hb _ e n=>u.slot b o e n hb (by simp)) (λb o _ e n=>u.free b o e n (by simp)) (λb o _ e=>u.there b o e (by simp)) u.tups u.frzs u.tbls (λm' hm=>by
  obtain⟨o',es',ep',ho',r'⟩:=hm;rw[ho] at ho';cases ho';exact⟨_,es',ep',hL,r'⟩) hok I.bare
theorem Inv.call{g':Array GenState}{t':Nat}{d':Drawn}{ch:List Addr}(I:Inv X pins σ H s)(u:Un (frs X.stack) ch H H' s.heap h')(hok:HOk X.prog X.w H' h')(hg:AllBare g')(hch:∀b∈ch,(b∈X.ex\/X.s₀.heap.objs.size<=b)/\b≠X.env.locals/\(∀x c,X.env.cells.lookup x=some c->c≠b)/\∀p∈X.pn++pins,p.1≠b):
  Inv X pins σ H' {s with heap:=h',gens:=g',drawn:=d',toks:=t'}:=by
 obtain⟨m,⟨o,es,ep,ho,r⟩,_⟩:=id I.loc;obtain⟨sl,hL⟩:=u.any ho I.free λz=>(hch _ z).2.1 rfl;exact I.step (ch:=ch) hch (λb o hL hb hc e n=>u.keep b o e n (λz=>(Qa6.mp (I.stkSub b z)).elim hL hb) hc) (λb o _ _ hc e n=>u.any e n hc) (λb o hc e n=>u.free b o e n hc) (λb o hc e=>u.there b o e hc) u.tups u.frzs u.tbls (λm' hm=>by
  obtain⟨o',es',ep',ho',r'⟩:=hm;rw[ho] at ho';cases ho';exact⟨_,es',ep',hL,r'⟩) hok hg
theorem Inv.turned{t':Nat}{it:Addr}(I:Inv X pins σ H s)(k:∀b o,b≠it->s.heap.get? b=some o->h'.get? b=some o)(hn:H it=none)(hL:it≠X.env.locals)(h1:it∈X.ex\/X.s₀.heap.objs.size<=it)(h2:∀x c,X.env.cells.lookup x=some c->c≠it)(h3:∀p∈X.pn++pins,p.1≠it):Inv X pins σ H {s with heap:=h',toks:=t'}:=by
 have nit:∀b u,H b=some u->b≠it:=λb u e z=>by rw[z,hn] at e;cases e
 refine I.step (g':=s.gens) (d':=s.drawn) (ch:=[it]) (λb hb=> ?_) (λb o _ _ hc e _=>k b o (λz=>hc (by simp[z])) e) (λb o _ _ hc e _=>⟨o.slots,k b o (λz=>hc (by simp[z])) e⟩) (λ_ _ _ _ n=>n)
  (λb o hc e=>⟨o,k b o (λz=>hc (by simp[z])) e⟩) (λ_ _ e=>e) (λ_ _ _ e=>e) (λb ps e=>⟨#[],by rw[e];simp⟩) (λm hm=> ?_) (λb u e=> ?_) I.bare
 ·have e:b=it:=by simpa using hb
  subst e;exact⟨h1,hL,h2,h3⟩
 ·obtain⟨o,es,ep,ho,r⟩:=hm;exact⟨o,es,ep,k _ o (Ne.symm hL) ho,r⟩
 ·refine(I.hok b u e).stay (λc v hc q=>k c v ?_ q) (λ_ q=>q) λ_ _ q=>q;rcases hc with z|z
  ·rw[z];exact nit b u e
  ·exact nit c _ z
theorem Inv.tok(I:Inv X pins σ H s)(t:Nat):Inv X pins σ H {s with toks:=t}:=I.un (h':=s.heap) (t':=t) Un.refl I.hok
theorem Inv.kept{t':Nat}(I:Inv X pins σ H s)(k:∀b u,s.heap.get? b=some u->h'.get? b=some u):Inv X pins σ H {s with heap:=h',toks:=t'}:=I.un (Un.kept k) (I.hok.kept k)
theorem Inv.laid{a:Addr}{o:HO}{t':Nat}(I:Inv X pins σ H s)(k:∀b u,s.heap.get? b=some u->h'.get? b=some u)(hp:s.heap.objs.size<=a)(new:ObjOk X.prog X.w (upd H a o) h' a o):
  Inv X pins σ (upd H a o) {s with heap:=h',toks:=t'}:=I.un (Un.laid k hp (I.hok.fresh hp)) (I.hok.laid k hp new)
theorem Inv.write{x e:Addr}{o:HO}{t':Nat}(I:Inv X pins σ H s)(mu:Mut (H x))(he:e=x\/H e=some (.own x))(k:∀b u,b≠e->s.heap.get? b=some u->h'.get? b=some u)(heo:∃u,h'.get? e=some u)(new:ObjOk X.prog X.w (upd H x o) h' x o):Inv X pins σ (upd H x o) {s with heap:=h',toks:=t'}:=I.un (Un.write mu he k heo) (I.hok.write mu he k heo new)
theorem Inv.pins_of{pins':List (Addr×Obj)}(I:Inv X pins σ H s)(h:∀p∈pins',s.heap.get? p.1=some p.2/\H p.1=none/\p.1≠X.env.locals/\p.1 ∉ X.fs/\∀v,p.2.data≠ .cell v):Inv X pins' σ H s:=
 ⟨I.ok,I.os,I.bare,I.base,I.loc,I.cell,I.free,I.freeC,λp hp=>(mem_append.mp hp).elim (λz=>I.pin p (mem_append_left _ z)) (h p),I.hok,I.len⟩
theorem Qw{N:List Str}(hN:N.Nodup){i j:Nat}{x:Str}(a:N[i]? =some x)(b:N[j]? =some x):i=j:=by
 obtain⟨h1,e1⟩:=List.getElem?_eq_some_iff.mp a;obtain⟨h2,e2⟩:=List.getElem?_eq_some_iff.mp b;exact(getElem_inj hN).mp (e1.trans e2.symm)
theorem Yd{M:Model}{A:Around}{E:Value->Shared->Prop}{i:Nat}{x:Str}{v:V}{u:Value}{Q:Unit->Shared->Prop}(I:Inv X pins σ H s)(hN:X.N.Nodup)(hi:X.N[i]? =some x)(hx:Loc X.env.scope x)(r:RelV v u)(h:∀s',Inv X pins (σ.set i (some v)) H s'->(∃a,SameBut a s.heap s'.heap/\(a=X.env.locals\/X.env.cells.lookup x=some a))->Q () s')(hf:X.fn x=true\/X.env.scope.names.lookup x=some .local:=by first|exact .inl rfl|exact .inr rfl|assumption):wpAny M A (storeName X.env x u) Q E s:=by
 obtain⟨m,hn,hl⟩:=id I.loc;have hcls:(X.env.scope.kind== .class||(X.env.scope.kind== .module && X.env.locals !=X.env.globals))=false:=by rw[I.ok.kind];rfl
 have hiσ:i<σ.length:=by rw[I.len];exact(List.getElem?_eq_some_iff.mp hi).1
 have cne:=I.cne;have tracked:∀{a:Addr} {h':Heap},(∃o,s.heap.get? a=some o/\H a=none)->SameBut a s.heap h'->HOk X.prog X.w H h':=λ{a h'} ha hs b ob e=>by
  obtain⟨_,_,hfree⟩:=ha;refine(I.hok b ob e).stay (λc w' hc q=>(hs.2 c ?_).trans q) (λ_ q=>q) λ_ _ q=>q;rintro rfl;rcases hc with rfl|hc
  ·rw[hfree] at e;cases e
  ·rw[hfree] at hc;cases hc
 rcases hx with hk|hk
 ·refine wpAny_storeName_local hk hn (λh' hn' hs=> ?_) hcls;obtain⟨oL,_,_,hoL,_⟩:=id hn;refine h _ ⟨I.ok,I.os,I.bare,⟨λb o e n hb hx=> ?_,λb o e n hb hx=> ?_,I.base.free,λb o e hx=> ?_,I.base.tups,I.base.frzs,I.base.tbls⟩,⟨_,hn',λj y v' e1 e2 e3=> ?_⟩,λy c e=> ?_,I.free,I.freeC,λp hp=> ?_,tracked ⟨oL,hoL,I.free⟩ hs,by simpa using I.len⟩ ⟨_,hs,.inl rfl⟩
  ·exact(hs.2 b (ne_of_lt (lt_of_lt_of_le (Qa7 e) I.ok.above))).trans (I.base.keep b o e n hb hx)
  ·obtain⟨sl,e1⟩:=I.base.slot b o e n hb hx;exact⟨sl,(hs.2 b (ne_of_lt (lt_of_lt_of_le (Qa7 e) I.ok.above))).trans e1⟩
  ·obtain⟨o',e1⟩:=I.base.there b o e hx;exact⟨o',(hs.2 b (ne_of_lt (lt_of_lt_of_le (Qa7 e) I.ok.above))).trans e1⟩
  ·by_cases hj:j=i
   ·subst hj;rw[hi] at e1;cases e1;rw[List.getElem?_set_self hiσ] at e2;cases e2;exact⟨u,r,.inl ⟨hk,by simp⟩⟩
   ·rw[List.getElem?_set_ne (Ne.symm hj)] at e2;obtain⟨u',r',q⟩:=hl j y v' e1 e2 e3;refine⟨u',r',?_⟩;rcases q with⟨k,e⟩|⟨k,c,e,z⟩
    ·refine .inl ⟨k,?_⟩;have:y≠x:=λe=>hj (Qw hN e1 (e▸hi));simp[this,e]
    ·exact .inr ⟨k,c,e,z.sameBut hs (cne y c e)⟩
  ·obtain⟨w',z⟩:=I.cell y c e;exact⟨w',z.sameBut hs (cne y c e)⟩
  ·obtain⟨e,n,ne,nf,d⟩:=I.pin p hp;exact⟨(hs.2 p.1 ne).trans e,n,ne,nf,d⟩
 ·have hfn:X.fn x=true:=by
   rcases hf with z|z
   ·exact z
   ·rw[z] at hk;cases hk
  obtain⟨c,hc⟩:=I.ok.has x (.inl hk);obtain⟨w',z⟩:=I.cell x c hc;refine wpAny_storeName_cell I.ok.kind hk hc z (λh' hc' hs=> ?_);obtain⟨oc,hoc,hocd⟩:=id z;refine h {s with heap:=h'} ⟨I.ok,I.os,I.bare,⟨λb o e n hb hx=> ?_,λb o e n hb hx=> ?_,I.base.free,λb o e hx=> ?_,I.base.tups,I.base.frzs,I.base.tbls⟩,⟨m,hn.sameBut hs (Ne.symm (cne x c hc)),λj y v' e1 e2 e3=> ?_⟩,λy c' e=> ?_,I.free,I.freeC,λp hp=> ?_,tracked ⟨oc,hoc,I.freeC x c hc⟩ hs,by simpa using I.len⟩ ⟨c,hs,.inr hc⟩
  ·exact(hs.2 b (ne_of_lt (lt_of_lt_of_le (Qa7 e) (I.ok.cab x c hfn hc)))).trans (I.base.keep b o e n hb hx)
  ·obtain⟨sl,e1⟩:=I.base.slot b o e n hb hx;exact⟨sl,(hs.2 b (ne_of_lt (lt_of_lt_of_le (Qa7 e) (I.ok.cab x c hfn hc)))).trans e1⟩
  ·obtain⟨o',e1⟩:=I.base.there b o e hx;exact⟨o',(hs.2 b (ne_of_lt (lt_of_lt_of_le (Qa7 e) (I.ok.cab x c hfn hc)))).trans e1⟩
  ·by_cases hj:j=i
   ·subst hj;rw[hi] at e1;cases e1;rw[List.getElem?_set_self hiσ] at e2;cases e2;exact⟨u,r,.inr ⟨.inl hk,c,hc,hc'⟩⟩
   ·rw[List.getElem?_set_ne (Ne.symm hj)] at e2;obtain⟨u',r',q⟩:=hl j y v' e1 e2 e3;refine⟨u',r',?_⟩;rcases q with q|⟨k,c',e,z'⟩
    ·exact .inl q
    ·refine .inr ⟨k,c',e,z'.sameBut hs ?_⟩;rintro rfl;exact hj (Qw hN e1 (I.ok.inj _ _ _ e hc▸hi))
  ·by_cases hcc:c'=c
   ·subst hcc;exact⟨_,hc'⟩
   ·obtain⟨w2,z2⟩:=I.cell y c' e;exact⟨w2,z2.sameBut hs hcc⟩
  ·obtain⟨e,n,ne,nf,d⟩:=I.pin p hp;refine⟨(hs.2 p.1 ?_).trans e,n,ne,nf,d⟩;intro q;rw[q,hoc] at e;have q':oc=p.2:=Option.some.inj e;exact d w' (by rw[<-q'];exact hocd)
theorem Ex{M:Model}{A:Around}{E:Value->Shared->Prop}{i:Nat}{x:Str}{v:V}{u:Value}{Q:Unit->Shared->Prop}(I:Inv X pins σ H s)(hN:X.N.Nodup)(hi:X.N[i]? =some x)(hx:Loc X.env.scope x)(r:RelV v u)(h:∀s',Inv X pins (σ.set i (some v)) H s'->Q () s')(hf:X.fn x=true\/X.env.scope.names.lookup x=some .local:=by first|exact .inl rfl|exact .inr rfl|assumption):wpAny M A (storeName X.env x u) Q E s:=
 Yd I hN hi hx r (λs' I' _=>h s' I') hf
theorem Inv.call'{s':Shared}{ch:List Addr}(I:Inv X pins σ H s)(ho:s'.os=s.os)(u:Un (frs X.stack) ch H H' s.heap s'.heap)(hok:HOk X.prog X.w H' s'.heap)(hg:AllBare s'.gens)(hch:∀b∈ch,(b∈X.ex\/X.s₀.heap.objs.size<=b)/\b≠X.env.locals/\(∀x c,X.env.cells.lookup x=some c->c≠b)/\∀p∈X.pn++pins,p.1≠b):Inv X pins σ H' s':=by
 obtain⟨h',g',d',t',o'⟩:=s';have e:o'=s.os:=ho;subst e;exact I.call (g':=g') (t':=t') (d':=d') u hok hg hch
end
abbrev XK:=Value->Option Addr->Hp->Prop
abbrev St:=List (Option V)
abbrev VK:=V->Hp->Prop
abbrev TE:=St->Hp->VK->Prop
abbrev TT:=St->Hp->(Bool->Hp->Prop)->Prop
abbrev TA:=St->Hp->(List V->Hp->Prop)->Prop
structure Ey where
 nx:St->Hp->Prop
 rt:VK
 bk:St->Hp->Prop:=λ_ _=>False
 ct:St->Hp->Prop:=λ_ _=>False
abbrev TS:=Ey->St->Hp->Prop
def EP(X:Cx)(pins:List (Addr×Obj))(σ:St)(Q:VK)(u:Value)(s':Shared):Prop:=∃v H',Inv X pins σ H' s'/\RelV v u/\Q v H'
def TP(X:Cx)(pins:List (Addr×Obj))(σ:St)(Q:Bool->Hp->Prop)(b:Bool)(s':Shared):Prop:=∃H',Inv X pins σ H' s'/\Q b H'
def AP(X:Cx)(pins:List (Addr×Obj))(σ:St)(Q:List V->Hp->Prop)(us:List Value)(s':Shared):Prop:=∃vs H',Inv X pins σ H' s'/\Vals vs us/\Q vs H'
def SP(X:Cx)(pins:List (Addr×Obj))(D:Ey)(f:Flow)(s':Shared):Prop:=
 match f with
 | .next=>∃σ' H',Inv X pins σ' H' s'/\D.nx σ' H'
 | .brk=>∃σ' H',Inv X pins σ' H' s'/\D.bk σ' H'
 | .cont=>∃σ' H',Inv X pins σ' H' s'/\D.ct σ' H'
 | .ret u=>∃v σ' H',Inv X pins σ' H' s'/\RelV v u/\D.rt v H'
def PE(X:Cx)(e:Expr)(t:TE):Prop:=
 ∀(pins:List (Addr×Obj)) (s:Shared) (σ:St) (H:Hp) (Q:VK),Inv X pins σ H s->t σ H Q->wpAny (model X.prog X.w) X.A (eval e X.env) (EP X pins σ Q) X.xe s
def PT(X:Cx)(e:Expr)(t:TT):Prop:=
 ∀(pins:List (Addr×Obj)) (s:Shared) (σ:St) (H:Hp) (Q:Bool->Hp->Prop),Inv X pins σ H s->t σ H Q->wpAny (model X.prog X.w) X.A (isTrue e X.env (eval e X.env)) (TP X pins σ Q) X.xe s
def PW(X:Cx)(e:Expr)(t:TT):Prop:=
 ∀(whole:Sem Value) (pins:List (Addr×Obj)) (s:Shared) (σ:St) (H:Hp) (Q:Bool->Hp->Prop),Inv X pins σ H s->t σ H Q->wpAny (model X.prog X.w) X.A (isTrue e X.env whole) (TP X pins σ Q) X.xe s
theorem PW.pt{X:Cx}{e:Expr}{t:TT}(h:PW X e t):PT X e t:=h _
def PA(X:Cx)(es:List Expr)(t:TA):Prop:=
 ∀(pos:Pos) (pins:List (Addr×Obj)) (s:Shared) (σ:St) (H:Hp) (Q:List V->Hp->Prop),Inv X pins σ H s->t σ H Q->wpAny (model X.prog X.w) X.A (spliced (backTo pos (starEach es X.env))) (AP X pins σ Q) X.xe s
def PS(X:Cx)(st:Stmt)(t:TS):Prop:=
 ∀(pins:List (Addr×Obj)) (s:Shared) (σ:St) (H:Hp) (D:Ey),Inv X pins σ H s->t D σ H->wpAny (model X.prog X.w) X.A (exec st X.env) (SP X pins D) X.xe s
def PSs(X:Cx)(st:List Stmt)(t:TS):Prop:=
 ∀(pins:List (Addr×Obj)) (s:Shared) (σ:St) (H:Hp) (D:Ey),Inv X pins σ H s->t D σ H->wpAny (model X.prog X.w) X.A (execs st X.env) (SP X pins D) X.xe s
theorem thn{α:Type}{t:Sem α}{Q Q':α->Shared->Prop}{M:Model}{A:Around}{E:Value->Shared->Prop}{s:Shared}(h:wpAny M A t Q E s)(hQ:∀a s,Q a s->Q' a s):wpAny M A t Q' E s:=Qe3 h hQ λ_ _ x=>x
section
variable{X:Cx}
inductive Ms(i:Nat)(σ:St)(H:Hp)(Q:VK):Prop
 |mk (v:_):(σ[i]? =some (some v))->(Q v H)->Ms i σ H Q
def tVar(i:Nat):TE:=λσ H Q=>Ms i σ H Q
def tC(v:V):TE:=λ_ H Q=>Q v H
theorem pe_var{i:Nat}{x:Str}{pos:Pos}(hN:X.N[i]? =some x)(hv:Vis X.env.scope x)(hd:(x==("__debug__":Str))=false:=by decide)(hcd:(x==("__classdict__":Str))=false:=by decide):PE X (.Name x pos) (tVar i):=by
 intro pins s σ H Q I h;obtain⟨v,e,h⟩:=h;obtain⟨m,hn,hl⟩:=I.loc;obtain⟨u,r,l⟩:=hl i x v hN e hv;have fin:EP X pins σ Q u s:=⟨v,H,I,r,h⟩
 rcases l with⟨hk,hm⟩|⟨hk,c,hc,hcell⟩
 ·exact wpAny_Name (wpAny_loadName_local I.ok.kind hk hn hm fin) hd
 ·rcases hk with hk|hk
  ·exact wpAny_Name (wpAny_loadName_cell I.ok.kind hk hc hcell fin) hd
  ·exact wpAny_Name (wpAny_loadName_free I.ok.kind hk hc hcell fin hcd) hd
theorem Af{i j pos}:PE X (.Constant (.int i) j pos) (tC (.int i)):=λ_ _ _ H _ I h=>wpAny_Constant_int ⟨.int i,H,I.tok _,⟨_,rfl⟩,h⟩
theorem Gb{b j pos}:PE X (.Constant (.bool b) j pos) (tC (.bl b)):=λ_ _ _ H _ I h=>Constant_bool ⟨.bl b,H,I,rfl,h⟩
theorem Uc{j pos}:PE X (.Constant .none j pos) (tC .non):=λ_ _ _ H _ I h=>Constant_none ⟨.non,H,I,rfl,h⟩
theorem Bs{x j pos}:PE X (.Constant (.str x) j pos) (tC (.str x)):=λ_ _ _ H _ I h=>Calls.Constant_str ⟨.str x,H,I.tok _,⟨_,rfl⟩,h⟩
def Gl(X:Cx)(x:Str):Prop:=X.env.kindOf x=some .globalImplicit
theorem Vq{E:Value->Shared->Prop}{pins:List (Addr×Obj)}{s:Shared}{σ:St}{H:Hp}{x:Str}{u:Value}{pos:Pos}{Q:Value->Shared->Prop}(I:Inv X pins σ H s)(hg:Gl X x)(hm:X.mg x=some u)(h:Q u s)(hd:(x==("__debug__":Str))=false:=by decide):wpAny (model X.prog X.w) X.A (eval (.Name x pos) X.env) Q E s:=
 Calls.Name_function_global I.ok.kind hg (Calls.loadGlobal_global (by rw[I.ok.glob];exact I.mod.glob.keeps I.bk) hm h) hd
theorem Dz{E:Value->Shared->Prop}{pins:List (Addr×Obj)}{s:Shared}{σ:St}{H:Hp}{x:Str}{u:Value}{pos:Pos}{Q:Value->Shared->Prop}(I:Inv X pins σ H s)(hg:Gl X x)(hm:X.mg x=none)(hv:bootBuiltins x=some u)(h:Q u s)(hn:x≠"__name__":=by decide)(hd:(x==("__debug__":Str))=false:=by decide):wpAny (model X.prog X.w) X.A (eval (.Name x pos) X.env) Q E s:=by
 obtain⟨mb,h1,h2⟩:=I.mod.blt;exact Calls.Name_function_global I.ok.kind hg (Calls.loadGlobal_builtin (by rw[I.ok.glob];exact I.mod.glob.keeps I.bk) hm (by rw[I.ok.blt];exact h1.keeps I.bk) ((h2 x hn).trans hv) h) hd
variable{a b:Expr}{ta tb:TE}{pos:Pos}
def PC(X:Cx)(op:CmpOp)(a b:Expr)(t:TE):Prop:=
 ∀(pins:List (Addr×Obj)) (s:Shared) (σ:St) (H:Hp) (Q:VK),Inv X pins σ H s->t σ H Q->
  wpAny (model X.prog X.w) X.A (eval a X.env) (λv s₁=>wpAny (model X.prog X.w) X.A (eval b X.env) (λu s₂=>wpAny (model X.prog X.w) X.A (compareOp op v u) (EP X pins σ Q) X.xe s₂) X.xe s₁) X.xe s
inductive BlP(x:V)(H:Hp)(Q:Bool->Hp->Prop):Prop
 |mk (c:Bool):(x= .bl c)->(Q c H)->BlP x H Q
def tB(t:TE):TT:=λσ H Q=>t σ H λx H1=>BlP x H1 Q
theorem pt_cmp{op:CmpOp}{t:TE}(h:PC X op a b t)(h1:behindInMarks op b=false:=by first|exact nobehind _ (by decide) (by decide)|rfl):PT X (.Compare a [op] [b] pos) (tB t):=by
 intro pins s σ H Q I hw;refine wpAny_isTrue_Compare1 (thn (h pins s σ H _ I hw) λv s1 h1=>thn h1 λu s2 h2=>thn h2 λc s3 ⟨x,H1,I1,r1,q1⟩=> ?_) h1;obtain⟨d,rfl,q⟩:=q1;cases r1;exact Qd8 ⟨H1,I1,q⟩
theorem Gg{e:Expr}{t:TE}(h:PE X e t)(he:∀whole,isTrue e X.env whole=(do let v <-whole;standAt e.pos;holding [v] (truthy v)):=by intro _;rfl):PT X e (tB t):=by
 intro pins s σ H Q I hw;refine isTrue_plain (thn (h pins s σ H _ I hw) λv s1 ⟨x,H1,I1,r1,q1⟩=> ?_) (he _);obtain⟨d,rfl,q⟩:=q1;cases r1;exact Qd8 ⟨H1,I1,q⟩
variable{tA tB':TT}{rest:List Expr}
def tAnd(t u:TT):TT:=λσ H Q=>t σ H λc H1=>if c=true then u σ H1 Q else Q false H1
def tOr(t u:TT):TT:=λσ H Q=>t σ H λc H1=>if c=true then Q true H1 else u σ H1 Q
def tNot(t:TT):TT:=λσ H Q=>t σ H λc H1=>Q (!c) H1
theorem Fm(ha:PT X a tA):PW X (.BoolOp .And [a] pos) tA:=by
 intro wh pins s σ H Q I h;refine isTrue_and (thn (ha pins s σ H Q I h) λc s1 e=> ?_);cases c with
 |true=>exact isTrue_and_nil e
 |false=>exact e
theorem Lw(ha:PT X a tA):PW X (.BoolOp .Or [a] pos) tA:=by
 intro wh pins s σ H Q I h;refine isTrue_or (thn (ha pins s σ H Q I h) λc s1 e=> ?_);cases c with
 |false=>exact isTrue_or_nil e
 |true=>exact e
theorem Hd(ha:PT X a tA)(hb:PW X (.BoolOp .And (b::rest) pos) tB'):PW X (.BoolOp .And (a::b::rest) pos) (tAnd tA tB'):=by
 intro wh pins s σ H Q I h;refine isTrue_and (thn (ha pins s σ H _ I h) λc s1 ⟨H1,I1,q1⟩=> ?_);cases c with
 |true=>exact hb wh pins s1 σ H1 Q I1 q1
 |false=>exact⟨H1,I1,q1⟩
theorem Rw(ha:PT X a tA)(hb:PW X (.BoolOp .Or (b::rest) pos) tB'):PW X (.BoolOp .Or (a::b::rest) pos) (tOr tA tB'):=by
 intro wh pins s σ H Q I h;refine isTrue_or (thn (ha pins s σ H _ I h) λc s1 ⟨H1,I1,q1⟩=> ?_);cases c with
 |true=>exact⟨H1,I1,q1⟩
 |false=>exact hb wh pins s1 σ H1 Q I1 q1
theorem Hm(ha:PT X a tA):PT X (.UnaryOp .Not a pos) (tNot tA):=by
 intro pins s σ H Q I h;exact isTrue_not (ha pins s σ H (λc H1=>Q (!c) H1) I h)
def tAndV(ta tb:TE):TE:=λσ H Q=>ta σ H λx H1=>∃c,x= .bl c/\if c=true then tb σ H1 Q else Q (.bl false) H1
def tOrV(ta tb:TE):TE:=λσ H Q=>ta σ H λx H1=>∃c,x= .bl c/\if c=true then Q (.bl true) H1 else tb σ H1 Q
def tNotV(ta:TE):TE:=λσ H Q=>ta σ H λx H1=>∃c,x= .bl c/\Q (.bl (!c)) H1
theorem Hl{op}{t:TE}(h:PE X a t):PE X (.BoolOp op [a] pos) t:=λpins s σ H Q I hw=>BoolOp_one (h pins s σ H Q I hw)
theorem O2(ha:PE X a ta)(hb:PE X (.BoolOp .And (b::rest) pos) tb):PE X (.BoolOp .And (a::b::rest) pos) (tAndV ta tb):=by
 intro pins s σ H Q I h;refine BoolOp_and (thn (ha pins s σ H _ I h) λv s1 ⟨x,H1,I1,r1,q1⟩=> ?_);obtain⟨c,rfl,q1⟩:=q1;cases r1;refine Qd8 ?_;cases c with
 |true=>exact hb pins s1 σ H1 Q I1 q1
 |false=>exact⟨.bl false,H1,I1,rfl,q1⟩
theorem Z1(ha:PE X a ta)(hb:PE X (.BoolOp .Or (b::rest) pos) tb):PE X (.BoolOp .Or (a::b::rest) pos) (tOrV ta tb):=by
 intro pins s σ H Q I h;refine BoolOp_or (thn (ha pins s σ H _ I h) λv s1 ⟨x,H1,I1,r1,q1⟩=> ?_);obtain⟨c,rfl,q1⟩:=q1;cases r1;refine Qd8 ?_;cases c with
 |false=>exact hb pins s1 σ H1 Q I1 q1
 |true=>exact⟨.bl true,H1,I1,rfl,q1⟩
theorem Tf(ha:PE X a ta):PE X (.UnaryOp .Not a pos) (tNotV ta):=by
 intro pins s σ H Q I h;refine UnaryOp_ (thn (ha pins s σ H _ I h) λv s1 ⟨x,H1,I1,r1,q1⟩=> ?_);obtain⟨c,rfl,q1⟩:=q1;cases r1;exact not_of (Qd8 ⟨.bl (!c),H1,I1,rfl,q1⟩)
def tIf(t:TT)(ta tb:TE):TE:=λσ H Q=>t σ H λc H1=>if c=true then ta σ H1 Q else tb σ H1 Q
theorem Mt{c:Expr}(hc:PT X c tA)(ha:PE X a ta)(hb:PE X b tb):PE X (.IfExp c a b pos) (tIf tA ta tb):=by
 intro pins s σ H Q I h;refine wpAny_IfExp (thn (hc pins s σ H _ I h) λd s1 ⟨H1,I1,q1⟩=> ?_);cases d with
 |true=>exact ha pins s1 σ H1 Q I1 q1
 |false=>exact hb pins s1 σ H1 Q I1 q1
end
def SqL(K:Frag)(H:Hp)(a:Addr)(xs:List V):Prop:=
 Rd H a (.lst xs)\/
  ∃(o:Obj) (its:Array Value) (n:Nat),K.lookup a=some o/\o.cls= .type "list"/\o.dict=none/\o.data= .seq its n/\its.size<=sizeLine/\Vals xs its.toList
def SqT(K:Frag)(H:Hp)(a:Addr)(xs:List V):Prop:=
 Rd H a (.tup xs)\/
  ∃(o:Obj) (its:Array Value) (n:Nat),K.lookup a=some o/\o.cls= .type "tuple"/\o.data= .seq its n/\its.size<=sizeLine/\Vals xs its.toList
def absV:Value->Option V
 | .none=>some .non
 | .bool b=>some (.bl b)
 | .int i _=>some (.int i)
 | .str x _=>some (.str x)
 | .bytes b _=>some (.byt b)
 | .float b _=>some (.flt b)
 | .ref a=>some (.ref a)
 | .type n=>some (.ty n)
 |_=>none
theorem RelV.abs{x:V}{u:Value}(r:RelV x u):absV u=some x:=by
 cases x with
 |non=>cases r;rfl
 |bl _=>cases r;rfl
 |int _=>obtain⟨t,rfl⟩:=r;rfl
 |str _=>obtain⟨t,rfl⟩:=r;rfl
 |byt _=>obtain⟨t,rfl⟩:=r;rfl
 |flt _=>obtain⟨t,rfl⟩:=r;rfl
 |ref _=>cases r;rfl
 |ty _=>cases r;rfl
theorem RelV.inj{x y:V}{u:Value}(r:RelV x u)(q:RelV y u):x=y:=Option.some.inj (r.abs.symm.trans q.abs)
theorem Vals.inj:∀{xs ys:List V} {us:List Value},Vals xs us->Vals ys us->xs=ys
 |_,_,_,.nil,.nil=>rfl
 |_,_,_,.cons r t,.cons r' t'=>by rw[r.inj r',Vals.inj t t']
section
variable{X:Cx}{pins:List (Addr×Obj)}{σ:St}{H:Hp}{s:Shared}{a:Addr}{xs ys:List V}
theorem SqL.of{K:Frag}(h:H a=some (.lst xs)):SqL K H a xs:= .inl (.inl h)
theorem SqT.of{K:Frag}(h:H a=some (.tup xs)):SqT K H a xs:= .inl (.inl h)
theorem Inv.list(I:Inv X pins σ H s)(h:SqL X.K H a xs):∃its:List Value,Vals xs its/\PlainL s.heap a its.toArray/\xs.length<=sizeLine:=by
 rcases h with h|⟨o,its,n,hk,hc,hd,hs,hz,r⟩
 ·obtain⟨z,its,n,r,e⟩:=h.ok I.hok;exact⟨its,r,⟨_,n,e,rfl,rfl,rfl⟩,z⟩
 ·refine⟨its.toList,r,⟨o,n,I.kIn a o hk,hc,hd,by simpa using hs⟩,?_⟩;have e:=r.length;simp only[length_toList] at e;omega
theorem Inv.tuple(I:Inv X pins σ H s)(h:SqT X.K H a xs):∃its:List Value,Vals xs its/\IsTup s.heap a its.toArray/\xs.length<=sizeLine:=by
 rcases h with h|⟨o,its,n,hk,hc,hs,hz,r⟩
 ·obtain⟨z,its,r,p⟩:=h.ok I.hok;exact⟨its,r,p.tup,z⟩
 ·refine⟨its.toList,r,⟨o,I.kIn a o hk,hc,n,by simpa using hs⟩,?_⟩;have e:=r.length;simp only[length_toList] at e;omega
theorem Inv.list_inj(I:Inv X pins σ H s)(h:SqL X.K H a xs)(h':SqL X.K H a ys):xs=ys:=by
 obtain⟨its,r,⟨o,n,e,_,_,d⟩,_⟩:=I.list h;obtain⟨its',r',⟨o',n',e',_,_,d'⟩,_⟩:=I.list h';rw[e] at e';cases e';rw[d] at d';injection d' with d1 _;have:its=its':=by simpa using Qc7 toList d1
 subst this;exact r.inj r'
theorem Inv.tuple_inj(I:Inv X pins σ H s)(h:SqT X.K H a xs)(h':SqT X.K H a ys):xs=ys:=by
 obtain⟨its,r,⟨o,e,_,n,d⟩,_⟩:=I.tuple h;obtain⟨its',r',⟨o',e',_,n',d'⟩,_⟩:=I.tuple h';rw[e] at e';cases e';rw[d] at d';injection d' with d1 _;have:its=its':=by simpa using Qc7 toList d1
 subst this;exact r.inj r'
end
abbrev Cx.wish(X:Cx)(E:Value->Shared->Prop):Cx:={X with xe:=E}
abbrev Cx.nox(X:Cx):Cx:=X.wish λ_ _=>False
theorem Cx.Ok.wish{X:Cx}(ok:X.Ok)(E:Value->Shared->Prop):(X.wish E).Ok:=
 ⟨ok.mod,ok.kind,ok.glob,ok.blt,ok.above,ok.inj,ok.has,ok.cab,ok.hd,ok.frames,ok.stk,ok.exf,ok.bs,ok.bsz,ok.noex,ok.exfs,ok.funs,ok.frf⟩
theorem Cx.Ok.unwish{X:Cx}{E:Value->Shared->Prop}(ok:(X.wish E).Ok):X.Ok:=
 ⟨ok.mod,ok.kind,ok.glob,ok.blt,ok.above,ok.inj,ok.has,ok.cab,ok.hd,ok.frames,ok.stk,ok.exf,ok.bs,ok.bsz,ok.noex,ok.exfs,ok.funs,ok.frf⟩
section
variable{X:Cx}{pins:List (Addr×Obj)}{σ:St}{H:Hp}{s:Shared}{E:Value->Shared->Prop}
theorem Inv.wish(I:Inv X pins σ H s)(E:Value->Shared->Prop):Inv (X.wish E) pins σ H s:=⟨I.ok.wish E,I.os,I.bare,I.base,I.loc,I.cell,I.free,I.freeC,I.pin,I.hok,I.len⟩
theorem Inv.unwish(I:Inv (X.wish E) pins σ H s):Inv X pins σ H s:=⟨I.ok.unwish,I.os,I.bare,I.base,I.loc,I.cell,I.free,I.freeC,I.pin,I.hok,I.len⟩
theorem SP.unwish{D:Ey}{f:Flow}{s':Shared}(h:SP (X.wish E) pins D f s'):SP X pins D f s':=by
 cases f with
 |next=>obtain⟨σ',H',I,q⟩:=h;exact⟨σ',H',I.unwish,q⟩
 |brk=>obtain⟨σ',H',I,q⟩:=h;exact⟨σ',H',I.unwish,q⟩
 |cont=>obtain⟨σ',H',I,q⟩:=h;exact⟨σ',H',I.unwish,q⟩
 |ret u=>obtain⟨v,σ',H',I,r,q⟩:=h;exact⟨v,σ',H',I.unwish,r,q⟩
theorem PSs.nox{st:List Stmt}{t:TS}(h:PSs X.nox st t):PSs X st t:=λpins s σ H D I hw=>
 Qe3 (h pins s σ H D (I.wish _) hw) (λ_ _ q=>q.unwish) λ_ _ z=>False.elim z
end
section
variable{X:Cx}{st:Stmt}{rest:List Stmt}{t u:TS}{e:Expr}{te:TE}{pos:Pos}
def B6:TS:=λD σ H=>D.nx σ H
def Xc(t u:TS):TS:=λD σ H=>t {D with nx:=u D} σ H
theorem Bd:PSs X [] B6:=λ_ _ σ H _ I h=>wpAny_execs_nil ⟨σ,H,I,h⟩
theorem Ae(h1:PS X st t)(h2:PSs X rest u):PSs X (st::rest) (Xc t u):=by
 intro pins s σ H D I h;refine wpAny_execs_cons (thn (h1 pins s σ H {D with nx:=u D} I h) λf s1 q=> ?_);cases f with
 |next=>
  obtain⟨σ',H',I',q⟩:=q;exact h2 pins s1 σ' H' D I' q
 |ret v=>exact q
 |brk=>exact q
 |cont=>exact q
theorem Ag(h1:PS X st t):PSs X [st] t:=by
 intro pins s σ H D I h;refine wpAny_execs_cons (thn (h1 pins s σ H D I h) λf s1 q=> ?_);cases f with
 |next=>exact wpAny_execs_nil q
 |ret v=>exact q
 |brk=>exact q
 |cont=>exact q
theorem Inv.quiet{pins:List (Addr×Obj)}{σ:St}{H:Hp}{s:Shared}(I:Inv X pins σ H s):interactive X.env=false:=by simp[interactive,I.ok.kind]
def tDrop(te:TE):TS:=λD σ H=>te σ H λ_ H1=>D.nx σ H1
theorem Co(he:PE X e te)(hs:swapsWith e none pos.line X.env=pure false:=by rfl):PS X (.Expr e pos) (tDrop te):=by
 intro pins s σ H D I h;exact wpAny_Expr_any (thn (he pins s σ H _ I h) λv s1 ⟨x,H1,I1,r1,q1⟩=>⟨σ,H1,I1,q1⟩) I.quiet hs
def tRet(te:TE):TS:=λD σ H=>te σ H D.rt
theorem As(he:PE X e te):PS X (.Return (some e) pos) (tRet te):=by
 intro pins s σ H D I h;exact wpAny_Return_some (thn (he pins s σ H _ I h) λv s1 ⟨x,H1,I1,r1,q1⟩=>⟨x,σ,H1,I1,r1,q1⟩)
def tIfS(c:TT)(t u:TS):TS:=λD σ H=>c σ H λb H1=>if b=true then t D σ H1 else u D σ H1
theorem Br{c:Expr}{a b:List Stmt}{tc:TT}(hc:PT X c tc)(ha:PSs X a t)(hb:PSs X b u):PS X (.If c a b pos) (tIfS tc t u):=by
 intro pins s σ H D I h;refine wpAny_If (thn (hc pins s σ H _ I h) λd s1 ⟨H1,I1,q1⟩=> ?_);cases d with
 |true=>exact ha pins s1 σ H1 D I1 q1
 |false=>exact hb pins s1 σ H1 D I1 q1
def tNever:TS:=λ_ _ _=>False
theorem Y7:PS X st tNever:=λ_ _ _ _ _ _ h=>h.elim
theorem Yo{sts:List Stmt}:PSs X sts tNever:=λ_ _ _ _ _ _ h=>h.elim
end
abbrev TG:=V->St->Hp->(St->Hp->Prop)->Prop
abbrev TGs:=List V->St->Hp->(St->Hp->Prop)->Prop
def PG(X:Cx)(target:Expr)(t:TG):Prop:=
 ∀(pins:List (Addr×Obj)) (s:Shared) (σ:St) (H:Hp) (v:V) (u:Value) (Q:St->Hp->Prop),Inv X pins σ H s->RelV v u->t v σ H Q->
  wpAny (model X.prog X.w) X.A (assign target X.env u) (λ_ s'=>∃σ' H',Inv X pins σ' H' s'/\Q σ' H') X.xe s
def PGs(X:Cx)(ts:List Expr)(t:TGs):Prop:=
 ∀(pins:List (Addr×Obj)) (s:Shared) (σ:St) (H:Hp) (vs:List V) (us:List Value) (Q:St->Hp->Prop),Inv X pins σ H s->Vals vs us->t vs σ H Q->
  wpAny (model X.prog X.w) X.A (assignInOrder ((assignEach ts X.env).map (·.2)) us) (λ_ s'=>∃σ' H',Inv X pins σ' H' s'/\Q σ' H') X.xe s
abbrev TSet:=V->V->V->Hp->(Hp->Prop)->Prop
def PSet(X:Cx)(t:TSet):Prop:=
 ∀(pins:List (Addr×Obj)) (s:Shared) (σ:St) (H:Hp) (o i v:V) (ov iv u:Value) (Q:Hp->Prop),Inv X pins σ H s->RelV o ov->RelV i iv->RelV v u->t o i v H Q->
  wpAny (model X.prog X.w) X.A (setItem ov iv u) (λ_ s'=>∃H',Inv X pins σ H' s'/\Q H') X.xe s
abbrev TIp:=V->V->Hp->VK->Prop
def PIp(X:Cx)(op:Operator)(t:TIp):Prop:=
 ∀(pins:List (Addr×Obj)) (s:Shared) (σ:St) (H:Hp) (x y:V) (v u:Value) (Q:VK),Inv X pins σ H s->RelV x v->RelV y u->t x y H Q->
  wpAny (model X.prog X.w) X.A (inplaceOp op v u) (EP X pins σ Q) X.xe s
section
variable{X:Cx}{pos:Pos}
def Qs(i:Nat):TG:=λv σ H Q=>Q (σ.set i (some v)) H
theorem Aj{i:Nat}{x:Str}(hN:X.N.Nodup)(hi:X.N[i]? =some x)(hx:Loc X.env.scope x)(hf:X.fn x=true\/X.env.scope.names.lookup x=some .local:=by first|exact .inl rfl|exact .inr rfl|assumption):PG X (.Name x pos) (Qs i):=by
 intro pins s σ H v u Q I r h;exact wpAny_assign_Name (Ex I hN hi hx r (λs' I'=>⟨_,H,I',h⟩) hf)
def gNil:TGs:=λvs σ H Q=>vs=[]/\Q σ H
def gCons(t:TG)(u:TGs):TGs:=λvs σ H Q=>∃v r,vs=v::r/\t v σ H λσ' H'=>u r σ' H' Q
theorem Bk:PGs X [] gNil:=by
 intro pins s σ H vs us Q I r h;obtain⟨e,h⟩:=h;subst e;cases r;exact assignInOrder_nil ⟨σ,H,I,h⟩
theorem An{e:Expr}{es:List Expr}{t:TG}{u:TGs}(h1:PG X e t)(h2:PGs X es u)(hs:(assignEach (e::es) X.env).map (·.2)=assign e X.env::(assignEach es X.env).map (·.2):=by rfl):PGs X (e::es) (gCons t u):=by
 intro pins s σ H vs us Q I r h;obtain⟨v,vr,e1,h⟩:=h;subst e1;cases r with
 |cons r rr=>
  rw[hs];refine assignInOrder_cons (thn (h1 pins s σ H _ _ _ I r h) λ_ s1 ⟨σ1,H1,I1,q1⟩=> ?_);exact h2 pins s1 σ1 H1 _ _ Q I1 rr q1
def gTup(K:Frag)(n:Nat)(t:TGs):TG:=λv σ H Q=>∃a xs,v= .ref a/\SqT K H a xs/\xs.length=n/\t xs σ H Q
theorem C8{es:List Expr}{k:Nat}{t:TGs}{n:Nat}(hc:X.calm=true)(h:PGs X es t)(hn:(assignEach es X.env).length=n:=by rfl)(hst:(assignEach es X.env).findIdx? (·.1)=none:=by rfl):PG X (.Tuple es k pos) (gTup X.K n t):=by
 intro pins s σ H v u Q I r hw;obtain⟨a,xs,e1,hq,hl,hw⟩:=hw;subst e1;cases r;obtain⟨its,rv,ht,hz⟩:=I.tuple hq;refine assign_Tuple_tuple (I.ok.hd hc) ht (by simp[hn,<-hl,rv.length]) hst λh' hx=> ?_;have I1:Inv X pins σ H {s with heap:=h'}:=I.kept (t':=s.toks) λb o e=>hx b o (ne_of_lt (Qa7 e)) e;exact h pins _ σ H xs _ Q I1 (by simpa using rv) hw
def gSub(to ti:TE)(t:TSet):TG:=λv σ H Q=>to σ H λo H1=>ti σ H1 λi H2=>t o i v H2 λH3=>Q σ H3
theorem Mm{o i:Expr}{to ti:TE}{t:TSet}(ho:PE X o to)(hi:PE X i ti)(hs:PSet X t)(ha:∀v,assign (.Subscript o i pos) X.env v=(do
   let ov <-holding [v] (eval o X.env)
   let iv <-holding [v,ov] (eval i X.env)
   standAt pos
   holding [v,ov,iv] (setItem ov iv v)
   release [v,ov,iv] []):=by intro _;rfl):PG X (.Subscript o i pos) (gSub to ti t):=by
 intro pins s σ H v u Q I r h;rw[ha];refine Gt (Qb9 (thn (ho pins s σ H _ I h) λov s1 ⟨x,H1,I1,r1,q1⟩=> ?_));refine Gt (Qb9 (thn (hi pins s1 σ H1 _ I1 q1) λiv s2 ⟨y,H2,I2,r2,q2⟩=> ?_));refine Gt (wpAny_standAt (Gt (Qb9 (thn (hs pins s2 σ H2 x y v ov iv u _ I2 r1 r2 r q2) λ_ s3 ⟨H3,I3,q3⟩=> ?_))));exact wpAny_release ⟨σ,H3,I3,q3⟩
def tAsg(te:TE)(g:TG):TS:=λD σ H=>te σ H λx H1=>g x σ H1 D.nx
theorem Da{tg e:Expr}{te:TE}{g:TG}(he:PE X e te)(hg:PG X tg g)(hs:swapsWithSole [tg] e pos.line X.env=pure false:=by rfl)(hw:swappedStores [tg] e X.env=pure none:=by rfl)(h1:(assignEach [tg] X.env).map (·.2)=[assign tg X.env]:=by rfl):PS X (.Assign [tg] e pos) (tAsg te g):=by
 intro pins s σ H D I h;refine wpAny_Assign_stores (thn (he pins s σ H _ I h) λv s1 ⟨x,H1,I1,r1,q1⟩=> ?_) hs hw;rw[h1];exact thn (hg pins s1 σ H1 x v _ I1 r1 q1) λ_ s2 q=>q
theorem Aq{i:Nat}{x:Str}{e:Expr}{te:TE}{pos':Pos}(hN:X.N.Nodup)(hi:X.N[i]? =some x)(hx:Loc X.env.scope x)(he:PE X e te)(hs:swapsWith e (some (.Name x pos')) pos.line X.env=pure false:=by rfl)(hf:X.fn x=true\/X.env.scope.names.lookup x=some .local:=by first|exact .inl rfl|exact .inr rfl|assumption):
  PS X (.Assign [.Name x pos'] e pos) (tAsg te (Qs i)):=by
 intro pins s σ H D I h;refine wpAny_Assign_Name (thn (he pins s σ H _ I h) λv s1 ⟨y,H1,I1,r1,q1⟩=> ?_) hs;exact Ex I1 hN hi hx r1 (λs2 I2=>⟨_,H1,I2,q1⟩) hf
def tPar(i j:Nat)(ta:TA):TS:=λD σ H=>ta σ H λvs H1=>∃v w,vs=[v,w]/\D.nx ((σ.set i (some v)).set j (some w)) H1
theorem Zd{i j:Nat}{x y:Str}{a b:Expr}{ta:TA}{px py pt:Pos}{kt k2 pt2}(hc:X.calm=true)(hN:X.N.Nodup)(hi:X.N[i]? =some x)(hj:X.N[j]? =some y)(hij:i≠j)(hx:X.env.scope.names.lookup x=some .local)(hy:X.env.scope.names.lookup y=some .local)(ha:PA X [a,b] ta)(hw:swappedStores [.Tuple [.Name x px,.Name y py] kt pt] (.Tuple [a,b] k2 pt2) X.env=pure (some [x,y]))(hs:swapsWithSole [.Tuple [.Name x px,.Name y py] kt pt] (.Tuple [a,b] k2 pt2) pos.line X.env=pure false:=by rfl):
  PS X (.Assign [.Tuple [.Name x px,.Name y py] kt pt] (.Tuple [a,b] k2 pt2) pos) (tPar i j ta):=by
 intro pins s σ H D I h;rw[exec_Assign_arm];refine Gt (wpAny_standAt ?_);rw[hs];refine Gt (Qa0 ?_);rw[Qa1 (by decide)];refine Gt (Tuple_ (thn (ha _ pins s σ H _ I h) λus s1 ⟨vs,H1,I1,r1,q1⟩=> ?_));obtain⟨v,w,e1,q1⟩:=q1;subst e1;obtain⟨u1,u2,rfl,rv,rw'⟩:∃u1 u2,us=[u1,u2]/\RelV v u1/\RelV w u2:=by
  cases r1 with
  |cons p q=>
   cases q with
   |cons p' q'=>
    cases q';exact⟨_,_,rfl,p,p'⟩
 refine Qc0 ?_ (by show 2<=sizeLine;decide);have I2:Inv X pins σ H1 {s1 with heap:=s1.heap.push {cls:= .type "tuple",data:= .seq [u1,u2].toArray}}:=I1.kept (t':=s1.toks) λb o e=>Lt _ e;rw[hw];refine Gt (Qa0 ?_);show wpAny (model X.prog X.w) X.A (do rule "assign.swapped-stores";let items <-unpackItems (.ref s1.heap.objs.size) 2 none;assignInOrder [λv=>bindName X.env y v,λv=>bindName X.env x v] items.reverse;pure Flow.next) _ _ _;refine Gt (Qd5 (Gt (unpackItems_tuple (items:= #[u1,u2]) (I.ok.hd hc) (IsTup.new s1.heap _) λh' hx'=> ?_)));have I3:=I2.kept (h':=h') (t':=s1.toks) λb o e=>hx' b o (ne_of_lt (Qa7 e)) e;show wpAny _ _ (assignInOrder [λv=>bindName X.env y v,λv=>bindName X.env x v] [u2,u1] >>=λ_=>pure Flow.next) _ _ _;refine Gt (assignInOrder_cons (wpAny_bindName (Ex I3 hN hj (.inl hy) rw' (λs2 I4=> ?_) (.inr hy))));refine assignInOrder_cons (wpAny_bindName (Ex I4 hN hi (.inl hx) rv (λs3 I5=>assignInOrder_nil (Qa0 ?_)) (.inr hx)));rw[List.set_comm _ _ (Ne.symm hij)] at I5;exact⟨_,H1,I5,q1⟩
def tAug(i:Nat)(te:TE)(ti:TIp):TS:=λD σ H=>∃x,σ[i]? =some (some x)/\te σ H λy H1=>ti x y H1 λz H2=>D.nx (σ.set i (some z)) H2
theorem ps_aug{i:Nat}{x:Str}{e:Expr}{te:TE}{op:Operator}{ti:TIp}{pos':Pos}(hN:X.N.Nodup)(hi:X.N[i]? =some x)(hx:Loc X.env.scope x)(he:PE X e te)(ho:PIp X op ti)(hf:X.fn x=true\/X.env.scope.names.lookup x=some .local:=by first|exact .inl rfl|exact .inr rfl|assumption):
  PS X (.AugAssign (.Name x pos') op e pos) (tAug i te ti):=by
 intro pins s σ H D I h;obtain⟨v,e1,h⟩:=h;obtain⟨m,hn,hl⟩:=I.loc;have vis:Vis X.env.scope x:=by rcases hx with k|k;exact .inl k;exact .inr (.inl k)
 obtain⟨u,r,l⟩:=hl i x v hi e1 vis;refine wpAny_AugAssign_Name ?_;have go:wpAny (model X.prog X.w) X.A (eval e X.env) (λw s₂=>wpAny (model X.prog X.w) X.A (inplaceOp op u w) (λr s₃=>wpAny (model X.prog X.w) X.A (storeName X.env x r) (λ_=>SP X pins D .next) X.xe s₃) X.xe s₂) X.xe s:=by
  refine thn (he pins s σ H _ I h) λw s1 ⟨y,H1,I1,r1,q1⟩=> ?_;refine thn (ho pins s1 σ H1 v y u w _ I1 r r1 q1) λz s2 ⟨zv,H2,I2,r2,q2⟩=> ?_;exact Ex I2 hN hi hx r2 (λs3 I3=>⟨_,H2,I3,q2⟩) hf
 rcases l with⟨hk,hm⟩|⟨hk,c,hc,hcell⟩
 ·exact wpAny_loadName_local I.ok.kind hk hn hm go
 ·rcases hk with hk|hk
  ·exact wpAny_loadName_cell I.ok.kind hk hc hcell go
  ·rcases hx with k|k
   ·have:X.env.scope.names.lookup x=some .free:=hk;rw[k] at this;cases this
   ·have:X.env.scope.names.lookup x=some .free:=hk;rw[k] at this;cases this
def ipI(f:Int->Int->Int):TIp:=λx y H Q=>∃i j,x= .int i/\y= .int j/\Q (.int (f i j)) H
theorem ip_add:PIp X .Add (ipI λi j=>i+j):=by
 intro pins s σ H x y v u Q I r1 r2 h;obtain⟨i,j,e1,e2,q⟩:=h;subst e1;subst e2;obtain⟨t,rfl⟩:=r1;obtain⟨t',rfl⟩:=r2;exact iadd_int ⟨.int _,H,I.tok _,⟨_,rfl⟩,q⟩
end
section
variable{X:Cx}{pos:Pos}
def Pe(c:TT)(tb:TS):TS:=λD σ H=>∃W:Nat->St->Hp->Prop,(∃m,W m σ H)/\∀m σ H,W m σ H->
 c σ H λb H1=>if b=true then ∃N:St->Hp->Prop,(∀σ' H',N σ' H'->∃m',m'<m/\W m' σ' H')/\tb {D with nx:=N,ct:=N,bk:=D.nx} σ H1 else D.nx σ H1
theorem Qz{c:Expr}{body:List Stmt}{tc:TT}{tb:TS}(hp:PassesOwn (model X.prog X.w) X.A X.env X.xe)(hc:PT X c tc)(hb:PSs X body tb):PS X (.While c body [] pos) (Pe tc tb):=by
 intro pins s σ H D I h;obtain⟨W,⟨m0,w0⟩,turn⟩:=h;refine wpAny_While (codeAny_whileLoop (λn s'=>∃σ' H',Inv X pins σ' H' s'/\W n σ' H') ?_ m0 ⟨σ,H,I,w0⟩);rintro n s1 ⟨σ1,H1,I1,w1⟩;refine Qf3 hp (thn (hc pins s1 σ1 H1 _ I1 (turn n σ1 H1 w1)) λb s2 ⟨H2,I2,q2⟩=> ?_);cases b with
 |true=>
  obtain⟨N,hN,q2⟩:=q2;rw[Qa2 rfl];refine Qf3 hp (thn (hb pins s2 σ1 H2 _ I2 q2) λf s3 q3=> ?_);cases f with
  |next=>
   obtain⟨σ3,H3,I3,n3⟩:=q3;obtain⟨m',hm,w3⟩:=hN σ3 H3 n3;exact⟨m',hm,σ3,H3,I3,w3⟩
  |cont=>
   obtain⟨σ3,H3,I3,n3⟩:=q3;obtain⟨m',hm,w3⟩:=hN σ3 H3 n3;exact⟨m',hm,σ3,H3,I3,w3⟩
  |brk=>exact q3
  |ret v=>exact q3
 |false=>
  rw[Qa1 Bool.false_ne_true];exact wpAny_execs_nil ⟨σ1,H2,I2,q2⟩
end
structure It where
 go:Nat->Hp->Prop
 yld:Nat->Hp->V->Hp->Prop
 stop:Nat->Hp->Prop
def FpOk(X:Cx)(pins:List (Addr×Obj))(H:Hp)(b:Addr):Prop:=
 H b=none/\b≠X.env.locals/\b ∉ X.fs/\(b∈X.ex\/X.s₀.heap.objs.size<=b)/\(∀x c,X.env.cells.lookup x=some c->c≠b)/\∀p∈X.pn++pins,p.1≠b
theorem Inv.fpOk{X:Cx}{pins:List (Addr×Obj)}{σ:St}{H H':Hp}{s:Shared}{b:Addr}(I:Inv X pins σ H s)(hb:s.heap.objs.size<=b)(hn:H' b=none):FpOk X pins H' b:=by
 refine⟨hn,ne_of_gt (lt_of_lt_of_le I.lt hb),I.nofs hb,.inr (le_trans I.sz hb),λx c e z=> ?_,λp hp z=> ?_⟩
 ·obtain⟨v,q⟩:=I.cell x c e;exact absurd (lt_of_lt_of_le q.lt (by rw[z];exact hb)) (lt_irrefl _)
 ·exact absurd (lt_of_lt_of_le (Qa7 (I.pin p hp).1) (by rw[z];exact hb)) (lt_irrefl _)
structure U2(P:Program)(w:World)(K:Frag)(tg:Expr)(J:It)(fp:List Addr)(it:Addr)(tn:Nat->Heap->Prop):Prop where
 mem:it∈fp
 obj:∀i h,tn i h->∀b∈fp,∃o,h.get? b=some o/\∀v,o.data≠ .cell v
 keep:∀i h h',tn i h->(∀b∈fp,∀o,h.get? b=some o->h'.get? b=some o)->tn i h'
 item:∀(X:Cx),X.prog=P->X.w=w->X.K=K->X.calm=true->∀(i:Nat) (pins:List (Addr×Obj)) (s:Shared) (σ:St) (H:Hp) (E:Value->Shared->Prop),Inv X pins σ H s->(∀b∈fp,FpOk X pins H b)->tn i s.heap->J.go i H->
  wpAny (model P w) X.A (pyNext (.ref it)) (λr s1=>∃u,r=some u/\
   wpAny (model P w) X.A (letOwnedTupleGo tg (.ref it) u) (λ_ s2=>∃x H',Inv X pins σ H' s2/\RelV x u/\J.yld i H x H'/\tn (i+1) s2.heap/\∀b∈fp,H' b=none) E s1) E s
 done:∀(X:Cx),X.prog=P->X.w=w->X.K=K->X.calm=true->∀(i:Nat) (pins:List (Addr×Obj)) (s:Shared) (σ:St) (H:Hp) (E:Value->Shared->Prop),Inv X pins σ H s->(∀b∈fp,FpOk X pins H b)->tn i s.heap->J.stop i H->
  wpAny (model P w) X.A (pyNext (.ref it)) (λr s1=>r=none/\Inv X pins σ H s1) E s
 self:∀(A:Around) (i:Nat) (s:Shared) (Q:Value->Shared->Prop) (E:Value->Shared->Prop),tn i s.heap->Q (.ref it) s->wpAny (model P w) A (pyIter (.ref it)) Q E s
abbrev TI:=St->Hp->(It->Hp->Prop)->Prop
def PIE(X:Cx)(pins:List (Addr×Obj))(σ:St)(tg:Expr)(R:It->Hp->Prop)(itv:Value)(s2:Shared):Prop:=
 ∃(it:Addr) (fp:List Addr) (tn:Nat->Heap->Prop) (J:It) (H':Hp),itv= .ref it/\Inv X pins σ H' s2/\U2 X.prog X.w X.K tg J fp it tn/\tn 0 s2.heap/\(∀b∈fp,FpOk X pins H' b)/\R J H'
def PI(X:Cx)(tg iter:Expr)(wi:TI):Prop:=
 ∀(pins:List (Addr×Obj)) (s:Shared) (σ:St) (H:Hp) (R:It->Hp->Prop),Inv X pins σ H s->wi σ H R->
  wpAny (model X.prog X.w) X.A (eval iter X.env) (λv s1=>wpAny (model X.prog X.w) X.A (pyIter v) (PIE X pins σ tg R) X.xe s1) X.xe s
theorem go_of{M:Model}{A:Around}{E:Value->Shared->Prop}{s:Shared}{tg:Expr}{it:Addr}{u:Value}{o:Obj}{n:String}{vs:Array Value}{Q:Unit->Shared->Prop}(ho:s.heap.get? it=some o)(hc:o.cls= .type n)(hd:o.data= .fields vs)(hn:["enumerate","zip","dict_itemiterator","dict_reverseitemiterator","odict_iterator","itertools.zip_longest","itertools.pairwise"].contains n=false)(hQ:Q () s):wpAny M A (letOwnedTupleGo tg (.ref it) u) Q E s:=by
 unfold letOwnedTupleGo;cases tg<;> first
  |exact Qa0 hQ
  |(cases u<;> first
   |exact Qa0 hQ
   |(refine Gt (wpAny_load ho ?_)
     rw[hc,hd];show wpAny M A (if (["enumerate","zip","dict_itemiterator","dict_reverseitemiterator","odict_iterator","itertools.zip_longest","itertools.pairwise"].contains n && vs[0]? ==some (rawInt _))=true then _ else _) Q E s;rw[Qa1 (by intro h;rw[hn,Bool.false_and] at h;cases h)];exact Qa0 hQ))
def Itl(K:Frag)(a:Addr):It:=
 ⟨λi H=>∃xs x,SqL K H a xs/\xs[i]? =some x,λi H x H'=>H'=H/\∀xs,SqL K H a xs->xs[i]? =some x,λi H=>∃xs,SqL K H a xs/\xs.length<=i⟩
def Itt(K:Frag)(a:Addr):It:=
 ⟨λi H=>∃xs x,SqT K H a xs/\xs[i]? =some x,λi H x H'=>H'=H/\∀xs,SqT K H a xs->xs[i]? =some x,λi H=>∃xs,SqT K H a xs/\xs.length<=i⟩
def Itr(lo:Int)(n:Nat):It:=⟨λi _=>i<n,λi H x H'=>H'=H/\x= .int (lo+i),λi _=>n<=i⟩
theorem Yp{P:Program}{w:World}{K:Frag}{tg:Expr}(a it:Addr):U2 P w K tg (Itl K a) [it] it (λi h=>h.IsListIter it a i) where
 mem:=by simp
 obj:=λi h st b hb=>by
  have e:b=it:=by simpa using hb
  subst e;obtain⟨o,e,c,d⟩:=st;exact⟨o,e,λv z=>by rw[d] at z;cases z⟩
 keep:=λi h h' st k=>st.at λo e=>k it (by simp) o e
 item:=by
  intro X hP hw hK hc i pins s σ H E I hf st hg;subst hP hw hK;obtain⟨xs,x,hq,hx⟩:=hg;obtain⟨its,rv,p,hz⟩:=I.list hq;obtain⟨u,hu,ru⟩:=rv.get hx;obtain⟨f0,f1,f2,f3,f4,f5⟩:=hf it (by simp);refine wpAny_pyNext_list_item st p.isList (x:=u) (by simpa using hu) λh' st' sb=> ?_;have I1:Inv X pins σ H {s with heap:=h'}:=I.turned (t':=s.toks) (λb o hb e=>(sb.2 b hb).trans e) f0 f1 f3 f4 f5;obtain⟨o,e,c,d⟩:=id st';exact⟨u,rfl,go_of (s:={s with heap:=h'}) e c d (by decide) ⟨x,H,I1,ru,⟨rfl,λys hy=>by rw[I.list_inj hy hq];exact hx⟩,st',λb hb=>(hf b hb).1⟩⟩
 done:=by
  intro X hP hw hK hc i pins s σ H E I hf st hg;subst hP hw hK;obtain⟨xs,hq,hx⟩:=hg;obtain⟨its,rv,p,hz⟩:=I.list hq;obtain⟨f0,f1,f2,f3,f4,f5⟩:=hf it (by simp);have hl:=rv.length;exact wpAny_pyNext_list_end (I.ok.hd hc) st p.isList (by simp;omega) λh' eb=>⟨rfl,I.turned (t':=s.toks) (λb o hb e=>eb b o hb e) f0 f1 f3 f4 f5⟩
 self:=λ_ _ _ _ _ st h=>wpAny_pyIter_listiter st h
theorem Ud{P:Program}{w:World}{K:Frag}{tg:Expr}(a it:Addr):U2 P w K tg (Itt K a) [it] it (λi h=>h.IsTupleIter it a i) where
 mem:=by simp
 obj:=λi h st b hb=>by
  have e:b=it:=by simpa using hb
  subst e;obtain⟨o,e,c,d⟩:=st;exact⟨o,e,λv z=>by rw[d] at z;cases z⟩
 keep:=λi h h' st k=>st.at λo e=>k it (by simp) o e
 item:=by
  intro X hP hw hK hc i pins s σ H E I hf st hg;subst hP hw hK;obtain⟨xs,x,hq,hx⟩:=hg;obtain⟨its,rv,p,hz⟩:=I.tuple hq;obtain⟨u,hu,ru⟩:=rv.get hx;obtain⟨f0,f1,f2,f3,f4,f5⟩:=hf it (by simp);refine wpAny_pyNext_tuple_item st (show s.heap.IsTuple a its.toArray from p) (x:=u) (by simpa using hu) λh' st' sb=> ?_;have I1:Inv X pins σ H {s with heap:=h'}:=I.turned (t':=s.toks) (λb o hb e=>(sb.2 b hb).trans e) f0 f1 f3 f4 f5;obtain⟨o,e,c,d⟩:=id st';exact⟨u,rfl,go_of (s:={s with heap:=h'}) e c d (by decide) ⟨x,H,I1,ru,⟨rfl,λys hy=>by rw[I.tuple_inj hy hq];exact hx⟩,st',λb hb=>(hf b hb).1⟩⟩
 done:=by
  intro X hP hw hK hc i pins s σ H E I hf st hg;subst hP hw hK;obtain⟨xs,hq,hx⟩:=hg;obtain⟨its,rv,p,hz⟩:=I.tuple hq;obtain⟨f0,f1,f2,f3,f4,f5⟩:=hf it (by simp);have hl:=rv.length;exact wpAny_pyNext_tuple_end (I.ok.hd hc) st (show s.heap.IsTuple a its.toArray from p) (by simp;omega) λh' eb=>⟨rfl,I.turned (t':=s.toks) (λb o hb e=>eb b o hb e) f0 f1 f3 f4 f5⟩
 self:=λ_ _ _ _ _ st h=>wpAny_pyIter_tupleiter st h
theorem Uk{P:Program}{w:World}{K:Frag}{tg:Expr}(it:Addr)(lo:Int)(n:Nat):U2 P w K tg (Itr lo n) [it] it (λi h=>IsRangeIter h it (lo+(i:Nat) * 1) ((n:Int) - (i:Nat)) 1) where
 mem:=by simp
 obj:=λi h st b hb=>by
  have e:b=it:=by simpa using hb
  subst e;exact⟨_,st,λv z=>by
   have z':Data.fields _=Data.cell v:=z;cases z'⟩
 keep:=λi h h' st k=>k it (by simp) _ st
 item:=by
  intro X hP hw hK hc i pins s σ H E I hf st hg;subst hP hw hK;obtain⟨f0,f1,f2,f3,f4,f5⟩:=hf it (by simp);have W:=Walks.range (prog:=X.prog) (w:=X.w) (I.ok.hd hc) it lo 1 n;refine W.item i s _ _ hg st λv h' tk hv st' kk=> ?_;obtain⟨t,rfl⟩:=hv;have I1:Inv X pins σ H {s with heap:=h',toks:=tk}:=I.turned (λb o hb e=>kk b o (by simpa using hb) e) f0 f1 f3 f4 f5;refine⟨_,rfl,go_of (s:={s with heap:=h',toks:=tk}) (n:="range_iterator") st' rfl rfl (by decide) ⟨.int (lo+i),H,I1,⟨t,?_⟩,⟨rfl,rfl⟩,st',λb hb=>(hf b hb).1⟩⟩;rw[Int.mul_one]
 done:=by
  intro X hP hw hK hc i pins s σ H E I hf st hg;subst hP hw hK;obtain⟨f0,f1,f2,f3,f4,f5⟩:=hf it (by simp);exact wpAny_pyNext_range_end (I.ok.hd hc) st (by have:n<=i:=hg;omega) λh' eb=>⟨rfl,I.turned (t':=s.toks) (λb o hb e=>eb b o hb e) f0 f1 f3 f4 f5⟩
 self:=λ_ _ _ _ _ st h=>wpAny_pyIter_rangeiter st h
section
variable{X:Cx}{tg:Expr}
def iList(K:Frag)(tl:TE):TI:=λσ H R=>tl σ H λx H1=>∃a,x= .ref a/\(∃xs,SqL K H1 a xs)/\R (Itl K a) H1
def iTup(K:Frag)(tl:TE):TI:=λσ H R=>tl σ H λx H1=>∃a,x= .ref a/\(∃xs,SqT K H1 a xs)/\R (Itt K a) H1
theorem Cd{l:Expr}{tl:TE}(hl:PE X l tl):PI X tg l (iList X.K tl):=by
 intro pins s σ H R I h;refine thn (hl pins s σ H _ I h) λv s1 ⟨x,H1,I1,r1,q1⟩=> ?_;obtain⟨a,e,⟨xs,hq⟩,q⟩:=q1;subst e;cases r1;obtain⟨its,rv,p,hz⟩:=I1.list hq;refine wpAny_pyIter_list p.isList ?_;refine⟨s1.heap.objs.size,[s1.heap.objs.size],_,_,H1,rfl,I1.kept (t':=s1.toks) λb o e=>Lt _ e,Yp a _,⟨_,Qa5 _ rfl,rfl,rfl⟩,λb hb=> ?_,q⟩;have e:b=s1.heap.objs.size:=by simpa using hb
 subst e;exact I1.fpOk (le_refl _) (I1.hok.fresh (le_refl _))
theorem Ds{l:Expr}{tl:TE}(hl:PE X l tl):PI X tg l (iTup X.K tl):=by
 intro pins s σ H R I h;refine thn (hl pins s σ H _ I h) λv s1 ⟨x,H1,I1,r1,q1⟩=> ?_;obtain⟨a,e,⟨xs,hq⟩,q⟩:=q1;subst e;cases r1;obtain⟨its,rv,p,hz⟩:=I1.tuple hq;refine Qf0 (show s1.heap.IsTuple a its.toArray from p) ?_;refine⟨s1.heap.objs.size,[s1.heap.objs.size],_,_,H1,rfl,I1.kept (t':=s1.toks) λb o e=>Lt _ e,Ud a _,⟨_,Qa5 _ rfl,rfl,rfl⟩,λb hb=> ?_,q⟩;have e:b=s1.heap.objs.size:=by simpa using hb
 subst e;exact I1.fpOk (le_refl _) (I1.hok.fresh (le_refl _))
theorem range_it{pins:List (Addr×Obj)}{σ:St}{H:Hp}{s:Shared}{R:It->Hp->Prop}{E:Value->Shared->Prop}{lo hi:Int}{t u v:Tok}{tk:Nat}(I:Inv X pins σ H s)(h1: -(2 ^ 62)<=lo)(h2:lo<2 ^ 62)(h3: -(2 ^ 62)<=hi)(h4:hi<2 ^ 62)(q:R (Itr lo (hi - lo).toNat) H):wpAny (model X.prog X.w) X.A (pyIter (.ref s.heap.objs.size)) (PIE X pins σ tg R) E {s with heap:=s.heap.push {cls:= .type "range",data:= .fields #[.int lo t,.int hi u,.int 1 v]},toks:=tk}:=by
 refine wpAny_pyIter_range (IsRange.new ..) (small_one h1 h2 h3 h4) ?_;have I1:Inv X pins σ H {s with heap:=s.heap.push {cls:= .type "range",data:= .fields #[.int lo t,.int hi u,.int 1 v]},toks:=tk}:=I.kept λb o e=>Lt _ e;refine⟨(s.heap.push {cls:= .type "range",data:= .fields #[.int lo t,.int hi u,.int 1 v]}).objs.size,[(s.heap.push {cls:= .type "range",data:= .fields #[.int lo t,.int hi u,.int 1 v]}).objs.size],_,_,H,rfl,
  I1.kept (t':=tk) λb o e=>Lt _ e,Uk _ lo (hi - lo).toNat,?_,λb hb=> ?_,q⟩
 ·have e1:lo+((0:Nat):Int) * 1=lo:=by simp
  have e2:(((hi - lo).toNat:Nat):Int) - ((0:Nat):Int)=Builtin.Range.rangeSize lo hi 1:=by rw[rangeSize_one];split<;> omega
  show IsRangeIter _ _ (lo+((0:Nat):Int) * 1) ((((hi - lo).toNat:Nat):Int) - ((0:Nat):Int)) 1;rw[e1,e2];exact Qa5 _ rfl
 ·have e:b=(s.heap.push {cls:= .type "range",data:= .fields #[.int lo t,.int hi u,.int 1 v]}).objs.size:=by simpa using hb
  subst e;exact I1.fpOk (le_refl _) (I1.hok.fresh (le_refl _))
def iRng1(ta:TA):TI:=λσ H R=>ta σ H λvs H1=>∃j:Int,vs=[.int j]/\ -(2 ^ 62)<=j/\j<2 ^ 62/\R (Itr 0 j.toNat) H1
theorem Cj{a:Expr}{ta:TA}{p pos:Pos}(hg:Gl X "range")(hm:X.mg "range"=none)(ha:PA X [a] ta)(hs:starEach [a] X.env=[(false,eval a X.env)]:=by rfl):PI X tg (.Call (.Name "range" p) [a] [] pos) (iRng1 ta):=by
 intro pins s σ H R I h;refine Call_ (Dz I hg hm boot_range (PyProof.Rows.callWith_type1 (thn (ha pos pins s σ H _ I h) λus s1 ⟨vs,H1,I1,r1,q1⟩=> ?_) hs rfl));obtain⟨j,e,q1,q2,q⟩:=q1;subst e;cases r1 with
 |cons r rr=>
  cases rr;obtain⟨t,rfl⟩:=r;exact call_range_1 (range_it I1 (by decide) (by decide) q1 q2 (by simpa using q))
def tFor(wi:TI)(g:TG)(tb:TS):TS:=λD σ H=>wi σ H λJ H1=>∃W:Nat->Nat->St->Hp->Prop,(∃m,W 0 m σ H1)/\∀i m σ H,W i m σ H->
 (J.stop i H/\D.nx σ H)\/(J.go i H/\∃N:St->Hp->Prop,(∀σ' H',N σ' H'->∃m',m'<m/\W (i+1) m' σ' H')/\∀x H',J.yld i H x H'->g x σ H' λσ2 H2=>tb {D with nx:=N,ct:=N,bk:=D.nx} σ2 H2)
def Lb(fp:List Addr)(h:Heap):List (Addr×Obj):=fp.filterMap λb=>(h.get? b).map λo=>(b,o)
theorem Fl{fp:List Addr}{h:Heap}{b:Addr}{o:Obj}(hb:b∈fp)(e:h.get? b=some o):(b,o)∈Lb fp h:=List.mem_filterMap.mpr ⟨b,hb,by rw[e];rfl⟩
theorem X0{fp:List Addr}{h:Heap}{p:Addr×Obj}(hp:p∈Lb fp h):p.1∈fp/\h.get? p.1=some p.2:=by
 obtain⟨b,hb,e⟩:=List.mem_filterMap.mp hp;cases q:h.get? b with
 |none=>rw[q] at e;cases e
 |some o=>
  rw[q] at e;have e':(b,o)=p:=Option.some.inj e;subst e';exact⟨hb,q⟩
theorem Inv.pinned{pins:List (Addr×Obj)}{σ:St}{H:Hp}{s:Shared}{fp:List Addr}(I:Inv X pins σ H s)(hf:∀b∈fp,FpOk X pins H b)(ho:∀b∈fp,∃o,s.heap.get? b=some o/\∀v,o.data≠ .cell v):Inv X (pins++Lb fp s.heap) σ H s:=
 I.pins_of λp hp=>(mem_append.mp hp).elim (λz=>I.pin p (mem_append_right _ z)) λz=>by
  obtain⟨hb,e⟩:=X0 z;obtain⟨f0,f1,f2,_⟩:=hf p.1 hb;obtain⟨o,e',d⟩:=ho p.1 hb;rw[e] at e';cases e';exact⟨e,f0,f1,f2,d⟩
theorem Inv.unpinned{pins pl:List (Addr×Obj)}{σ:St}{H:Hp}{s:Shared}(I:Inv X (pins++pl) σ H s):Inv X pins σ H s:=I.pins_of λp hp=>I.pin p (mem_append_right _ (mem_append_left _ hp))
theorem Cb{iter:Expr}{body:List Stmt}{wi:TI}{g:TG}{tb:TS}{pos:Pos}(hp:PassesOwn (model X.prog X.w) X.A X.env X.xe)(hc:X.calm=true)(hi:PI X tg iter wi)(hg:PG X tg g)(hb:PSs X body tb)(hs:∀x,foldedSetIterable iter X.env x=pure x:=by intro _;rfl):PS X (.For tg iter body [] pos) (tFor wi g tb):=by
 intro pins s σ H D I h;refine wpAny_For (thn (hi pins s σ H _ I h) λv s1 h1=>thn h1 λitv s2 h2=> ?_) hs;obtain⟨it,fp,tn,J,H2,e,I2,T,st2,f2,W,⟨m0,w0⟩,turn⟩:=h2;subst e;have stat:∀{H':Hp},(∀b∈fp,H' b=none)->∀b∈fp,FpOk X pins H' b:=λhn b hb=>⟨hn b hb,(f2 b hb).2⟩
 refine codeAny_forLoop_any (λn s'=>∃i σ' H',Inv X pins σ' H' s'/\tn i s'.heap/\(∀b∈fp,H' b=none)/\W i n σ' H') ?_ m0 ⟨0,σ,H2,I2,st2,λb hb=>(f2 b hb).1,w0⟩;rintro n s3 ⟨i,σ3,H3,I3,st3,fr3,w3⟩;rcases turn i n σ3 H3 w3 with⟨stop,qn⟩|⟨go,N,hN,step⟩
 ·refine Qf3 hp (thn (T.done X rfl rfl rfl hc i pins s3 σ3 H3 X.xe I3 (stat fr3) st3 stop) λr s4 ⟨hr,I4⟩=> ?_);subst hr;exact wpAny_execs_nil ⟨σ3,H3,I4,qn⟩
 ·refine Qf3 hp (thn (T.item X rfl rfl rfl hc i pins s3 σ3 H3 X.xe I3 (stat fr3) st3 go) λr s4 ⟨u,hr,h4⟩=> ?_);subst hr;refine Qf3 hp (thn h4 λ_ s5 ⟨x,H5,I5,r5,y5,st5,fr5⟩=> ?_);have I5':=I5.pinned (stat fr5) (T.obj _ _ st5);refine Qf3 hp (thn (hg _ s5 σ3 H5 x u _ I5' r5 (step x H5 y5)) λ_ s6 ⟨σ6,H6,I6,q6⟩=> ?_);refine Qf3 hp (thn (hb _ s6 σ6 H6 _ I6 q6) λf s7 q7=> ?_);have again:∀{σ7:St} {H7:Hp},Inv X (pins++Lb fp s5.heap) σ7 H7 s7->N σ7 H7->∃m,m<n/\∃i σ' H',Inv X pins σ' H' s7/\tn i s7.heap/\(∀b∈fp,H' b=none)/\W i m σ' H':=λ{σ7 H7} I7 n7=>by
   obtain⟨m',hm,w7⟩:=hN σ7 H7 n7;refine⟨m',hm,i+1,σ7,H7,I7.unpinned,T.keep _ _ _ st5 λb hb o e=>(I7.pin (b,o) (mem_append_right _ (mem_append_right _ (Fl hb e)))).1,λb hb=> ?_,w7⟩;obtain⟨o,e,d⟩:=T.obj _ _ st5 b hb;exact(I7.pin (b,o) (mem_append_right _ (mem_append_right _ (Fl hb e)))).2.1
  cases f with
  |next=>obtain⟨σ7,H7,I7,n7⟩:=q7;exact again I7 n7
  |cont=>obtain⟨σ7,H7,I7,n7⟩:=q7;exact again I7 n7
  |brk=>obtain⟨σ7,H7,I7,q7⟩:=q7;exact⟨σ7,H7,I7.unpinned,q7⟩
  |ret v=>obtain⟨x7,σ7,H7,I7,r7,q7⟩:=q7;exact⟨x7,σ7,H7,I7.unpinned,r7,q7⟩
end
theorem Ej{K:Frag}{a:Addr}{xs:List V}{g:TG}{tb:TS}{D:Ey}{σ:St}{H:Hp}(Pv:Nat->St->Hp->Prop)(h0:Pv 0 σ H)(hl:∀i σ H,i<=xs.length->Pv i σ H->SqL K H a xs)(hs:∀i x σ H,xs[i]? =some x->Pv i σ H->g x σ H λσ2 H2=>tb {D with nx:=Pv (i+1),ct:=Pv (i+1),bk:=D.nx} σ2 H2)(hd:∀σ H,Pv xs.length σ H->D.nx σ H):
  ∃W:Nat->Nat->St->Hp->Prop,(∃m,W 0 m σ H)/\∀i m σ H,W i m σ H->
   ((Itl K a).stop i H/\D.nx σ H)\/((Itl K a).go i H/\∃N:St->Hp->Prop,(∀σ' H',N σ' H'->∃m',m'<m/\W (i+1) m' σ' H')/\∀x H',(Itl K a).yld i H x H'->g x σ H' λσ2 H2=>tb {D with nx:=N,ct:=N,bk:=D.nx} σ2 H2):=by
 refine⟨λi m σ H=>m=xs.length - i/\i<=xs.length/\Pv i σ H,⟨xs.length,by simp,Qc5 _,h0⟩,?_⟩;rintro i m σ H ⟨rfl,hi,p⟩;have q:=hl i σ H hi p;by_cases hlt:i<xs.length
 ·refine .inr ⟨⟨xs,xs[i],q,by simp[hlt]⟩,Pv (i+1),λσ' H' p'=>⟨xs.length - (i+1),by omega,rfl,hlt,p'⟩,λx H' y=> ?_⟩;obtain⟨e,y⟩:=y;subst e;exact hs i x σ _ (y xs q) p
 ·have e:i=xs.length:=by omega
  subst e;exact .inl ⟨⟨xs,q,le_refl _⟩,hd σ H p⟩
theorem Jd{K:Frag}{a:Addr}{xs:List V}{g:TG}{tb:TS}{D:Ey}{σ:St}{H:Hp}(Pv:Nat->St->Hp->Prop)(h0:Pv 0 σ H)(hl:∀i σ H,i<=xs.length->Pv i σ H->SqT K H a xs)(hs:∀i x σ H,xs[i]? =some x->Pv i σ H->g x σ H λσ2 H2=>tb {D with nx:=Pv (i+1),ct:=Pv (i+1),bk:=D.nx} σ2 H2)(hd:∀σ H,Pv xs.length σ H->D.nx σ H):
  ∃W:Nat->Nat->St->Hp->Prop,(∃m,W 0 m σ H)/\∀i m σ H,W i m σ H->
   ((Itt K a).stop i H/\D.nx σ H)\/((Itt K a).go i H/\∃N:St->Hp->Prop,(∀σ' H',N σ' H'->∃m',m'<m/\W (i+1) m' σ' H')/\∀x H',(Itt K a).yld i H x H'->g x σ H' λσ2 H2=>tb {D with nx:=N,ct:=N,bk:=D.nx} σ2 H2):=by
 refine⟨λi m σ H=>m=xs.length - i/\i<=xs.length/\Pv i σ H,⟨xs.length,by simp,Qc5 _,h0⟩,?_⟩;rintro i m σ H ⟨rfl,hi,p⟩;have q:=hl i σ H hi p;by_cases hlt:i<xs.length
 ·refine .inr ⟨⟨xs,xs[i],q,by simp[hlt]⟩,Pv (i+1),λσ' H' p'=>⟨xs.length - (i+1),by omega,rfl,hlt,p'⟩,λx H' y=> ?_⟩;obtain⟨e,y⟩:=y;subst e;exact hs i x σ _ (y xs q) p
 ·have e:i=xs.length:=by omega
  subst e;exact .inl ⟨⟨xs,q,le_refl _⟩,hd σ H p⟩
theorem Fd{lo:Int}{n:Nat}{g:TG}{tb:TS}{D:Ey}{σ:St}{H:Hp}(Pv:Nat->St->Hp->Prop)(h0:Pv 0 σ H)(hs:∀i σ H,i<n->Pv i σ H->g (.int (lo+i)) σ H λσ2 H2=>tb {D with nx:=Pv (i+1),ct:=Pv (i+1),bk:=D.nx} σ2 H2)(hd:∀σ H,Pv n σ H->D.nx σ H):
  ∃W:Nat->Nat->St->Hp->Prop,(∃m,W 0 m σ H)/\∀i m σ H,W i m σ H->
   ((Itr lo n).stop i H/\D.nx σ H)\/((Itr lo n).go i H/\∃N:St->Hp->Prop,(∀σ' H',N σ' H'->∃m',m'<m/\W (i+1) m' σ' H')/\∀x H',(Itr lo n).yld i H x H'->g x σ H' λσ2 H2=>tb {D with nx:=N,ct:=N,bk:=D.nx} σ2 H2):=by
 refine⟨λi m σ H=>m=n - i/\i<=n/\Pv i σ H,⟨n,by simp,Qc5 _,h0⟩,?_⟩;rintro i m σ H ⟨rfl,hi,p⟩;by_cases hlt:i<n
 ·refine .inr ⟨hlt,Pv (i+1),λσ' H' p'=>⟨n - (i+1),by omega,rfl,hlt,p'⟩,λx H' y=> ?_⟩;obtain⟨e,y⟩:=y;subst e y;exact hs i σ _ hlt p
 ·have e:i=n:=by omega
  subst e;exact .inl ⟨le_refl _,hd σ H p⟩
abbrev R2:=V->V->Hp->VK->Prop
def OpR(X:Cx)(f:Value->Value->Sem Value)(r:R2):Prop:=
 ∀(pins:List (Addr×Obj)) (s:Shared) (σ:St) (H:Hp) (x y:V) (v u:Value) (Q:VK),Inv X pins σ H s->RelV x v->RelV y u->r x y H Q->
  wpAny (model X.prog X.w) X.A (f v u) (EP X pins σ Q) X.xe s
def UnR(X:Cx)(f:Value->Sem Value)(r:V->Hp->VK->Prop):Prop:=
 ∀(pins:List (Addr×Obj)) (s:Shared) (σ:St) (H:Hp) (x:V) (v:Value) (Q:VK),Inv X pins σ H s->RelV x v->r x H Q->
  wpAny (model X.prog X.w) X.A (f v) (EP X pins σ Q) X.xe s
def Dv(X:Cx)(f:Value)(r:List V->Hp->VK->Prop):Prop:=
 ∀(pins:List (Addr×Obj)) (s:Shared) (σ:St) (H:Hp) (xs:List V) (us:List Value) (Q:VK),Inv X pins σ H s->Vals xs us->r xs H Q->
  wpAny (model X.prog X.w) X.A (call f us) (EP X pins σ Q) X.xe s
def TruR(X:Cx)(r:V->Hp->(Bool->Hp->Prop)->Prop):Prop:=
 ∀(pins:List (Addr×Obj)) (s:Shared) (σ:St) (H:Hp) (x:V) (v:Value) (Q:Bool->Hp->Prop),Inv X pins σ H s->RelV x v->r x H Q->
  wpAny (model X.prog X.w) X.A (truthy v) (TP X pins σ Q) X.xe s
def tOp(r:R2)(ta tb:TE):TE:=λσ H Q=>ta σ H λx H1=>tb σ H1 λy H2=>r x y H2 Q
def tUn(r:V->Hp->VK->Prop)(ta:TE):TE:=λσ H Q=>ta σ H λx H1=>r x H1 Q
inductive RIP(C:Int->Int->Prop)(g:Int->Int->V)(x:V)(y:V)(H:Hp)(Q:VK):Prop
 |mk (i j:_):(x= .int i)->(y= .int j)->(C i j)->(Q (g i j) H)->RIP C g x y H Q
def rI(C:Int->Int->Prop)(g:Int->Int->V):R2:=λx y H Q=>RIP C g x y H Q
inductive RI0P(g:Int->Int->V)(x:V)(y:V)(H:Hp)(Q:VK):Prop
 |mk (i j:_):(x= .int i)->(y= .int j)->(Q (g i j) H)->RI0P g x y H Q
def rI0(g:Int->Int->V):R2:=λx y H Q=>RI0P g x y H Q
inductive RUP(g:Int->V)(x:V)(H:Hp)(Q:VK):Prop
 |mk (i:_):(x= .int i)->(Q (g i) H)->RUP g x H Q
def rU(g:Int->V):V->Hp->VK->Prop:=λx H Q=>RUP g x H Q
section
variable{X:Cx}{a b c:Expr}{ta tb tc:TE}{pos:Pos}
theorem binT(ha:PE X a ta)(hb:PE X b tb){pins:List (Addr×Obj)}{s:Shared}{σ:St}{H:Hp}{R:V->V->Hp->Prop}(I:Inv X pins σ H s)(h:ta σ H λx H1=>tb σ H1 λy H2=>R x y H2){Q:Value->Shared->Prop}{f:Value->Value->Sem Value}(hf:∀v u s2 x y H2,Inv X pins σ H2 s2->RelV x v->RelV y u->R x y H2->wpAny (model X.prog X.w) X.A (f v u) Q X.xe s2):
  wpAny (model X.prog X.w) X.A (eval a X.env) (λv s₁=>wpAny (model X.prog X.w) X.A (eval b X.env) (λu s₂=>wpAny (model X.prog X.w) X.A (f v u) Q X.xe s₂) X.xe s₁) X.xe s:=by
 refine thn (ha pins s σ H _ I h) λv s1 ⟨x,H1,I1,r1,q1⟩=> ?_;refine thn (hb pins s1 σ H1 _ I1 q1) λu s2 ⟨y,H2,I2,r2,q2⟩=> ?_;exact hf v u s2 x y H2 I2 r1 r2 q2
theorem Au{op:Operator}{r:R2}(ho:OpR X (binaryOp op) r)(ha:PE X a ta)(hb:PE X b tb):PE X (.BinOp a op b pos) (tOp r ta tb):=by
 intro pins s σ H Q I h;exact wpAny_BinOp (binT ha hb I h λv u s2 x y H2 I2 rx ry q=>ho pins s2 σ H2 x y v u Q I2 rx ry q)
theorem Mj{op:UnaryOp}{r:V->Hp->VK->Prop}(ho:UnR X (unaryOp op) r)(ha:PE X a ta):PE X (.UnaryOp op a pos) (tUn r ta):=by
 intro pins s σ H Q I h;exact UnaryOp_ (thn (ha pins s σ H _ I h) λv s1 ⟨x,H1,I1,r1,q1⟩=>ho pins s1 σ H1 x v Q I1 r1 q1)
theorem opI{f:Value->Value->Sem Value}{C:Int->Int->Prop}{g:Int->Int->Int}(rule:∀(i j:Int) (t u:Tok) (s:Shared) (Q:Value->Shared->Prop) (E:Value->Shared->Prop),C i j->Q (.int (g i j) s.toks) {s with toks:=s.toks+1}->wpAny (model X.prog X.w) X.A (f (.int i t) (.int j u)) Q E s):
  OpR X f (rI C λi j=> .int (g i j)):=by
 intro pins s σ H x y v u Q I rx ry h;obtain⟨i,j,rfl,rfl,hc,q⟩:=h;obtain⟨t,rfl⟩:=rx;obtain⟨t',rfl⟩:=ry;exact rule i j t t' s _ _ hc ⟨.int (g i j),H,I.tok _,⟨_,rfl⟩,q⟩
theorem opI0{f:Value->Value->Sem Value}{g:Int->Int->Int}(rule:∀(i j:Int) (t u:Tok) (s:Shared) (Q:Value->Shared->Prop) (E:Value->Shared->Prop),Q (.int (g i j) s.toks) {s with toks:=s.toks+1}->wpAny (model X.prog X.w) X.A (f (.int i t) (.int j u)) Q E s):
  OpR X f (rI0 λi j=> .int (g i j)):=by
 intro pins s σ H x y v u Q I rx ry h;obtain⟨i,j,rfl,rfl,q⟩:=h;obtain⟨t,rfl⟩:=rx;obtain⟨t',rfl⟩:=ry;exact rule i j t t' s _ _ ⟨.int (g i j),H,I.tok _,⟨_,rfl⟩,q⟩
theorem opB0{f:Value->Value->Sem Value}{g:Int->Int->Bool}(rule:∀(i j:Int) (t u:Tok) (s:Shared) (Q:Value->Shared->Prop) (E:Value->Shared->Prop),Q (.bool (g i j)) s->wpAny (model X.prog X.w) X.A (f (.int i t) (.int j u)) Q E s):
  OpR X f (rI0 λi j=> .bl (g i j)):=by
 intro pins s σ H x y v u Q I rx ry h;obtain⟨i,j,rfl,rfl,q⟩:=h;obtain⟨t,rfl⟩:=rx;obtain⟨t',rfl⟩:=ry;exact rule i j t t' s _ _ ⟨.bl (g i j),H,I,rfl,q⟩
def CDiv(i j:Int):Prop:=0<j/\j<1073741824
def CPow(i j:Int):Prop:=0<=j/\j<=1000000/\i.natAbs<2 ^ 64
def CMul(i j:Int):Prop:=(-(2 ^ 64)<i/\i<2 ^ 64)\/(-(2 ^ 64)<j/\j<2 ^ 64)
theorem CMul.ok{i j:Int}(h:CMul i j):IntMulOk i j:=by
 rcases h with⟨h1,h2⟩|⟨h1,h2⟩
 ·exact .of_left (intBits_le_64 h1 h2)
 ·exact .of_right (intBits_le_64 h1 h2)
theorem Bi:OpR X (binaryOp .Add) (rI0 λi j=> .int (i+j)):=opI0 λ_ _ _ _ _ _ _ q=>add_int q
theorem Fv:OpR X (binaryOp .Sub) (rI0 λi j=> .int (i - j)):=opI0 λ_ _ _ _ _ _ _ q=>sub_int q
theorem Mc:OpR X (binaryOp .Mult) (rI CMul λi j=> .int (i * j)):=opI λ_ _ _ _ _ _ _ hc q=>mul_int q hc.ok
theorem Gr:OpR X (binaryOp .FloorDiv) (rI CDiv λi j=> .int (i / j)):=opI λi j _ _ _ _ _ hc q=>by
 have h1:(0:Int)<j:=hc.1;have h2:j<1073741824:=hc.2;exact floordiv_int (by omega) (by rw[Int.fdiv_eq_ediv_of_nonneg i (by omega)];exact q) (.inl (PyProof.noPylong_small (by omega)))
theorem Cv:OpR X (binaryOp .Mod) (rI (λ_ j=>0<j) λi j=> .int (i % j)):=opI λi j _ _ _ _ _ hc q=>by
 have h1:(0:Int)<j:=hc;exact mod_int' (by omega) (by rw[Int.fmod_eq_emod_of_nonneg i (by omega)];exact q)
theorem Hg:OpR X (binaryOp .Pow) (rI CPow λi j=> .int (i ^ j.toNat)):=opI λ_ _ _ _ _ _ _ hc q=>pow_int_small hc.1 hc.2.1 hc.2.2 q
theorem op_xor:OpR X (binaryOp .BitXor) (rI0 λi j=> .int (Builtin.bitXor i j)):=opI0 λ_ _ _ _ _ _ _ q=>xor_int q
theorem unI{f:Value->Sem Value}{g:Int->Int}(rule:∀(i:Int) (t:Tok) (s:Shared) (Q:Value->Shared->Prop) (E:Value->Shared->Prop),Q (.int (g i) s.toks) {s with toks:=s.toks+1}->wpAny (model X.prog X.w) X.A (f (.int i t)) Q E s):
  UnR X f (rU λi=> .int (g i)):=by
 intro pins s σ H x v Q I rx h;obtain⟨i,rfl,q⟩:=h;obtain⟨t,rfl⟩:=rx;exact rule i t s _ _ ⟨.int (g i),H,I.tok _,⟨_,rfl⟩,q⟩
theorem Hh:UnR X (unaryOp .USub) (rU λi=> .int (-i)):=unI λ_ _ _ _ _ q=>neg_int q
end
def scal:V->V->Bool
 | .non,.non=>true| .non,.int _=>true| .int _,.non=>true| .non,.bl _=>true| .bl _,.non=>true| .non,.str _=>true| .str _,.non=>true
 | .int _,.int _=>true| .bl _,.bl _=>true| .str _,.str _=>true| .byt _,.byt _=>true
 | .int _,.str _=>true| .str _,.int _=>true| .bl _,.str _=>true| .str _,.bl _=>true
 |_,_=>false
def rEq:R2:=λx y H Q=>scal x y=true/\Q (.bl (decide (x=y))) H
def rNe:R2:=λx y H Q=>scal x y=true/\Q (.bl (!decide (x=y))) H
theorem Wj{i j:Int}:decide (V.int i=V.int j)=(i==j):=by
 rw[Bool.eq_iff_iff];simp
theorem dec_bl{i j:Bool}:decide (V.bl i=V.bl j)=(i==j):=by
 rw[Bool.eq_iff_iff];simp
theorem Vh{i j:Str}:decide (V.str i=V.str j)=(i==j):=by
 rw[Bool.eq_iff_iff];simp
theorem Vg{i j:Array UInt8}:decide (V.byt i=V.byt j)=(i.toList==j.toList):=by
 rw[Bool.eq_iff_iff];cases i;cases j;simp
section
variable{X:Cx}{a b c:Expr}{ta tb tc:TE}{pos:Pos}
theorem Bf{pins:List (Addr×Obj)}{σ:St}{H:Hp}{s:Shared}{Q:VK}{k k':Bool}(I:Inv X pins σ H s)(q:Q (.bl k) H)(e:k=k'):EP X pins σ Q (.bool k') s:=by
 subst e;exact⟨.bl k,H,I,rfl,q⟩
theorem Bq:OpR X (compareOp .Eq) rEq:=by
 intro pins s σ H x y v u Q I rx ry h;obtain⟨hs,q⟩:=h;cases x with
 |non=>
  cases rx;cases y with
  |non=>cases ry;exact PySem.EqNone.eq_none_none (Bf I q (by simp))
  |bl j=>cases ry;exact PySem.EqNone.eq_none_bool (Bf I q (by simp))
  |int j=>obtain⟨t',rfl⟩:=ry;exact PySem.EqNone.eq_none_int (Bf I q (by simp))
  |str j=>obtain⟨t',rfl⟩:=ry;exact PySem.EqNone.eq_none_str (Bf I q (by simp))
  |_=>exact absurd (show false=true from hs) Bool.false_ne_true
 |bl i=>
  cases rx;cases y with
  |non=>cases ry;exact PySem.EqNone.eq_bool_none (Bf I q (by simp))
  |bl j=>cases ry;exact eq_bool (Bf I q dec_bl)
  |str j=>obtain⟨t',rfl⟩:=ry;exact PySem.EqMixed.eq_bool_str (Bf I q (by simp))
  |_=>exact absurd (show false=true from hs) Bool.false_ne_true
 |int i=>
  obtain⟨t,rfl⟩:=rx;cases y with
  |non=>cases ry;exact PySem.EqNone.eq_int_none (Bf I q (by simp))
  |int j=>obtain⟨t',rfl⟩:=ry;exact eq_int (Bf I q Wj)
  |str j=>obtain⟨t',rfl⟩:=ry;exact PySem.EqMixed.eq_int_str (Bf I q (by simp))
  |_=>exact absurd (show false=true from hs) Bool.false_ne_true
 |str i=>
  obtain⟨t,rfl⟩:=rx;cases y with
  |non=>cases ry;exact PySem.EqNone.eq_str_none (Bf I q (by simp))
  |bl j=>cases ry;exact PySem.EqMixed.eq_str_bool (Bf I q (by simp))
  |int j=>obtain⟨t',rfl⟩:=ry;exact PySem.EqMixed.eq_str_int (Bf I q (by simp))
  |str j=>obtain⟨t',rfl⟩:=ry;exact eq_str (Bf I q Vh)
  |_=>exact absurd (show false=true from hs) Bool.false_ne_true
 |byt i=>
  obtain⟨t,rfl⟩:=rx;cases y with
  |byt j=>obtain⟨t',rfl⟩:=ry;exact PySem.W.eq_bytes (Bf I q Vg)
  |_=>exact absurd (show false=true from hs) Bool.false_ne_true
 |_=>cases y<;> exact absurd (show false=true from hs) Bool.false_ne_true
theorem Qu:OpR X (compareOp .NotEq) rNe:=by
 intro pins s σ H x y v u Q I rx ry h;obtain⟨hs,q⟩:=h;cases x with
 |non=>
  cases rx;cases y with
  |non=>cases ry;exact PySem.EqNone.ne_none_none (Bf I q (by simp))
  |bl j=>cases ry;exact PySem.EqNone.ne_none_bool (Bf I q (by simp))
  |int j=>obtain⟨t',rfl⟩:=ry;exact PySem.EqNone.ne_none_int (Bf I q (by simp))
  |str j=>obtain⟨t',rfl⟩:=ry;exact PySem.EqNone.ne_none_str (Bf I q (by simp))
  |_=>exact absurd (show false=true from hs) Bool.false_ne_true
 |bl i=>
  cases rx;cases y with
  |non=>cases ry;exact PySem.EqNone.ne_bool_none (Bf I q (by simp))
  |bl j=>cases ry;exact ne_bool (Bf I q (Qc7 not dec_bl))
  |str j=>obtain⟨t',rfl⟩:=ry;exact PySem.EqMixed.ne_bool_str (Bf I q (by simp))
  |_=>exact absurd (show false=true from hs) Bool.false_ne_true
 |int i=>
  obtain⟨t,rfl⟩:=rx;cases y with
  |non=>cases ry;exact PySem.EqNone.ne_int_none (Bf I q (by simp))
  |int j=>obtain⟨t',rfl⟩:=ry;exact ne_int (Bf I q (Qc7 not Wj))
  |str j=>obtain⟨t',rfl⟩:=ry;exact PySem.EqMixed.ne_int_str (Bf I q (by simp))
  |_=>exact absurd (show false=true from hs) Bool.false_ne_true
 |str i=>
  obtain⟨t,rfl⟩:=rx;cases y with
  |non=>cases ry;exact PySem.EqNone.ne_str_none (Bf I q (by simp))
  |bl j=>cases ry;exact PySem.EqMixed.ne_str_bool (Bf I q (by simp))
  |int j=>obtain⟨t',rfl⟩:=ry;exact PySem.EqMixed.ne_str_int (Bf I q (by simp))
  |str j=>obtain⟨t',rfl⟩:=ry;exact ne_str (Bf I q (Qc7 not Vh))
  |_=>exact absurd (show false=true from hs) Bool.false_ne_true
 |byt i=>
  obtain⟨t,rfl⟩:=rx;cases y with
  |byt j=>obtain⟨t',rfl⟩:=ry;exact PySem.W.ne_bytes (Bf I q (Qc7 not Vg))
  |_=>exact absurd (show false=true from hs) Bool.false_ne_true
 |_=>cases y<;> exact absurd (show false=true from hs) Bool.false_ne_true
theorem op_lt:OpR X (compareOp .Lt) (rI0 λi j=> .bl (decide (i<j))):=opB0 λ_ _ _ _ _ _ _ q=>lt_int q
theorem G0:OpR X (compareOp .LtE) (rI0 λi j=> .bl (decide (i<=j))):=opB0 λ_ _ _ _ _ _ _ q=>le_int q
theorem op_gt:OpR X (compareOp .Gt) (rI0 λi j=> .bl (decide (j<i))):=opB0 λ_ _ _ _ _ _ _ q=>gt_int q
theorem op_ge:OpR X (compareOp .GtE) (rI0 λi j=> .bl (decide (j<=i))):=opB0 λ_ _ _ _ _ _ _ q=>ge_int q
theorem op_isN:OpR X (compareOp .Is) (λx y H Q=>y= .non/\Q (.bl (decide (x= .non))) H):=by
 intro pins s σ H x y v u Q I rx ry h;obtain⟨rfl,q⟩:=h;cases ry;refine is_none_gen (Bf I q ?_);cases x<;> first
  |(cases rx;rfl)
  |(obtain⟨t,rfl⟩:=rx;rfl)
theorem op_notN:OpR X (compareOp .IsNot) (λx y H Q=>y= .non/\Q (.bl (!decide (x= .non))) H):=by
 intro pins s σ H x y v u Q I rx ry h;obtain⟨rfl,q⟩:=h;cases ry;refine isnot_none_gen (Bf I q ?_);cases x<;> first
  |(cases rx;rfl)
  |(obtain⟨t,rfl⟩:=rx;rfl)
theorem Aw(b:Expr){op:CmpOp}(h:op≠ .In:=by decide)(h2:op≠ .NotIn:=by decide):behindInMarks op b=false:=by
 have e1:(op==CmpOp.In)=false:=by cases op<;> first|rfl|exact absurd rfl h
 have e2:(op==CmpOp.NotIn)=false:=by cases op<;> first|rfl|exact absurd rfl h2
 cases b<;> simp[behindInMarks,e1,e2]
theorem Cr{op:CmpOp}{r:R2}(ho:OpR X (compareOp op) r)(ha:PE X a ta)(hb:PE X b tb)(hm:behindInMarks op b=false):PE X (.Compare a [op] [b] pos) (tOp r ta tb):=by
 intro pins s σ H Q I h;exact wpAny_Compare1 (binT ha hb I h λv u s2 x y H2 I2 rx ry q=>ho pins s2 σ H2 x y v u Q I2 rx ry q) hm
def tTest(t:TE):TT:=λσ H Q=>t σ H λx H'=>BlP x H' Q
theorem Ax{op:CmpOp}{r:R2}(ho:OpR X (compareOp op) r)(ha:PE X a ta)(hb:PE X b tb)(hm:behindInMarks op b=false):PT X (.Compare a [op] [b] pos) (tTest (tOp r ta tb)):=by
 intro pins s σ H Q I h;refine wpAny_isTrue_Compare1 (thn (ha pins s σ H _ I h) λv s1 ⟨x,H1,I1,r1,q1⟩=>thn (hb pins s1 σ H1 _ I1 q1) λu s2 ⟨y,H2,I2,r2,q2⟩=>
  thn (ho pins s2 σ H2 x y v u _ I2 r1 r2 q2) λc s3 ⟨z,H3,I3,r3,k,e,q3⟩=> ?_) hm
 subst e;cases r3;exact Qd8 ⟨H3,I3,q3⟩
def tChain(r r':R2)(ta tb tc:TE):TE:=λσ H Q=>ta σ H λx H1=>tb σ H1 λy H2=>r x y H2 λz H3=>∃k,z= .bl k/\
 (if k=true then tc σ H3 λw' H4=>r' y w' H4 Q else Q (.bl false) H3)
theorem Za{op op':CmpOp}{r r':R2}(ho:OpR X (compareOp op) r)(ho':OpR X (compareOp op') r')(ha:PE X a ta)(hb:PE X b tb)(hc:PE X c tc)(hm:lastMarks [op,op'] [b,c]=false:=by with_unfolding_all rfl):PE X (.Compare a [op,op'] [b,c] pos) (tChain r r' ta tb tc):=by
 intro pins s σ H Q I h;refine Compare_chain (thn (ha pins s σ H _ I h) λv s1 ⟨x,H1,I1,r1,q1⟩=>chain_link (thn (hb pins s1 σ H1 _ I1 q1) λu s2 ⟨y,H2,I2,r2,q2⟩=>
  thn (ho pins s2 σ H2 x y v u _ I2 r1 r2 q2) λd s3 ⟨z,H3,I3,r3,k,e,q3⟩=> ?_)) hm
 subst e;cases r3;refine Qd8 ?_;cases k with
 |false=>exact ite_ff ⟨.bl false,H3,I3,rfl,q3⟩
 |true=>exact ite_tt (chain_last (thn (hc pins s3 σ H3 _ I3 q3) λw' s4 ⟨z',H4,I4,r4,q4⟩=>ho' pins s4 σ H4 y z' u w' Q I4 r2 r4 q4))
def TruV(K:Frag)(x:V)(H:Hp)(k:Bool):Prop:=
 match x with
 | .non=>k=false
 | .bl b=>k=b
 | .int i=>k=(i !=0)
 | .str y=>y.length<=sizeLine/\k=((y.length:Int) !=0)
 | .byt y=>y.size<=sizeLine/\k=((y.size:Int) !=0)
 | .ref p=>(∃xs,SqL K H p xs/\k= !xs.isEmpty)\/(∃xs,SqT K H p xs/\k= !xs.isEmpty)\/∃kvs,H p=some (.dK kvs)/\k= !kvs.isEmpty
 |_=>False
theorem Ut{κ:Type}{kvs:List (κ×V)}{vs:List (κ×Value)}(r:KV kvs vs):(!vs.isEmpty)= !kvs.isEmpty:=by
 cases r<;> rfl
theorem Lr{xs:List V}{its:List Value}(r:Vals xs its):(!its.toArray.isEmpty)= !xs.isEmpty:=by
 cases r<;> simp
theorem Jl:(sizeLine:Nat)<2 ^ 63:=by rw[Qb3];decide
theorem tru_ok:TruR X (λx H Q=>∃k,TruV X.K x H k/\Q k H):=by
 intro pins s σ H x v Q I rx h;obtain⟨k,e,q⟩:=h;have hl:=Jl;have hs:sizeLine=16777216:=Qb3;cases x with
 |non=>
  cases rx;have e':k=false:=e;subst e';exact truthy_none ⟨H,I,q⟩
 |bl b=>
  cases rx;have e':k=b:=e;subst e';exact Qd8 ⟨H,I,q⟩
 |int i=>
  obtain⟨t,rfl⟩:=rx;have e':k=(i !=0):=e;subst e';exact PySem.P.truthy_int ⟨H,I,q⟩
 |str y=>
  obtain⟨t,rfl⟩:=rx;obtain⟨hy,e'⟩:y.length<=sizeLine/\k=((y.length:Int) !=0):=e;subst e';exact PySem.P.truthy_str (by omega) ⟨H,I.tok _,q⟩
 |byt y=>
  obtain⟨t,rfl⟩:=rx;obtain⟨hy,e'⟩:y.size<=sizeLine/\k=((y.size:Int) !=0):=e;subst e';exact PySem.W.truthy_bytes (by exact le_trans (by assumption) (by decide)) ⟨H,I.tok _,q⟩
 |ref p=>
  cases rx;have e':(∃xs,SqL X.K H p xs/\k= !xs.isEmpty)\/(∃xs,SqT X.K H p xs/\k= !xs.isEmpty)\/∃kvs,H p=some (.dK kvs)/\k= !kvs.isEmpty:=e;rcases e' with⟨xs,hx,e'⟩|⟨xs,hx,e'⟩|⟨kvs,hx,e'⟩
  ·subst e';obtain⟨its,r,pl,hz⟩:=I.list hx;have hlen:=r.length;exact wpAny_truthy_list pl.isList (by simp only[size_toArray];omega) ⟨H,I.tok _,by rw[Lr r];exact q⟩
  ·subst e';obtain⟨its,r,pl,hz⟩:=I.tuple hx;have hlen:=r.length;exact truthy_tuple pl (by simp only[size_toArray];omega) ⟨H,I.tok _,by rw[Lr r];exact q⟩
  ·subst e';obtain⟨hz,hS,vs,r,m⟩:kvs.length<=sizeLine/\(p==sysModules)=false/\∃vs,KV kvs vs/\s.heap.DictOf (Bg X.prog X.w) p vs:=I.hok p _ hx;have hlen:kvs.length=vs.length:=Paired.length r;exact wpAny_truthy_dict hS m (by omega) ⟨H,I.tok _,by rw[Ut r];exact q⟩
 |_=>exact(show False from e).elim
theorem Lu(ha:PE X a ta)(he:∀whole,isTrue a X.env whole=(do let v <-whole;standAt a.pos;holding [v] (truthy v))):
  PT X a (λσ H Q=>ta σ H λx H'=>∃k,TruV X.K x H' k/\Q k H'):=by
 intro pins s σ H Q I h;exact isTrue_plain (thn (ha pins s σ H _ I h) λv s1 ⟨x,H1,I1,r1,q1⟩=>tru_ok pins s1 σ H1 x v Q I1 r1 q1) (he _)
theorem Hy:OpR X (binaryOp .Add) (λx y H Q=>∃i j,x= .str i/\y= .str j/\i.length+j.length<=sizeLine/\Q (.str (i++j)) H):=by
 intro pins s σ H x y v u Q I rx ry h;obtain⟨i,j,rfl,rfl,hz,q⟩:=h;obtain⟨t,rfl⟩:=rx;obtain⟨t',rfl⟩:=ry;exact add_str (λt' tk=>⟨.str (i++j),H,I.tok _,⟨_,rfl⟩,q⟩) hz
theorem Dg{x:V}{us:List Value}(r:Vals [x] us):∃u,us=[u]/\RelV x u:=by
 cases r with
 |cons r1 r2=>cases r2;exact⟨_,rfl,r1⟩
theorem vals2{x y:V}{us:List Value}(r:Vals [x,y] us):∃u w',us=[u,w']/\RelV x u/\RelV y w':=by
 cases r with
 |cons r1 r2=>
  cases r2 with
  |cons r3 r4=>cases r4;exact⟨_,_,rfl,r1,r3⟩
theorem Gm(hc:X.calm=true):Dv X (.builtin "min") (λxs H Q=>∃i j,xs=[.int i,.int j]/\Q (.int (if j<i then j else i)) H):=by
 intro pins s σ H xs us Q I r h;obtain⟨i,j,rfl,q⟩:=h;obtain⟨u,w',rfl,⟨t,rfl⟩,⟨t',rfl⟩⟩:=vals2 r;refine min_two_ints (I.ok.hd hc) λh' tk k=>⟨_,H,I.kept k,?_,q⟩
 by_cases hj:j<i
 ·rw[Qa2 hj,Qa2 hj];exact⟨_,rfl⟩
 ·rw[Qa1 hj,Qa1 hj];exact⟨_,rfl⟩
theorem Gv:Dv X (.type "int") (λxs H Q=>(∃i,xs=[.int i]/\Q (.int i) H)\/∃k,xs=[.bl k]/\Q (.int (if k then 1 else 0)) H):=by
 intro pins s σ H xs us Q I r h;rcases h with⟨i,rfl,q⟩|⟨k,rfl,q⟩
 ·obtain⟨u,rfl,t,rfl⟩:=Dg r;exact call_int_int ⟨.int i,H,I,⟨_,rfl⟩,q⟩
 ·obtain⟨u,rfl,r1⟩:=Dg r;cases r1;exact call_int_bool ⟨.int (if k then 1 else 0),H,I.tok _,⟨_,rfl⟩,q⟩
end
structure ObjM(h:Heap)(x dx C:Addr)(mA:Str->Option Value):Prop where
 obj:h.get? x=some (instObj C dx)
 ns:h.Ns1 dx mA
 ne:dx≠x
theorem Wz{h:Heap}{dx:Addr}{mA:Str->Option Value}(n:h.Ns1 dx mA):∃od,h.get? dx=some od/\∀name,lookIn name od=some (mA name):=by
 obtain⟨o,es,ep,ho,hd,hk,_,hm⟩:=n;refine⟨o,ho,λname=> ?_⟩;have e:=hm name;unfold nsFind findBy at e;rw[<-Array.find?_toList] at e;unfold lookIn;rw[hd];dsimp only;split
 ·rename_i y q;rw[q] at e;exact Qc7 some e
 ·rename_i q;rw[q] at e;have a:es.toList.any (·.refKey)=false:=by
   rw[List.any_eq_false];intro y hy;obtain⟨z,t,hkey⟩:=hk y (Array.mem_toList_iff.mp hy);simp[DictEntry.refKey,hkey]
  have a':¬es.toList.any (·.refKey)=true:=by rw[a];exact Bool.false_ne_true
  rw[Qa1 a'];exact Qc7 some e
theorem ObjM.look{h:Heap}{x dx C:Addr}{mA:Str->Option Value}(I:ObjM h x dx C mA):∃od,PySem.W.InstAt h x (instObj C dx) C (some od)/\∀name,lookIn name od=some (mA name):=
 let ⟨od,ho,hl⟩:=Wz I.ns
 ⟨od,⟨I.obj,rfl,rfl,ho⟩,hl⟩
section
variable{prog:Program}{w:World}{A:Around}{E:Value->Shared->Prop}{s:Shared}{K:Frag}{x dx C f:Addr}{mA:Str->Option Value}{name:Str}{v:Value}
theorem get_map{expr:Bool}{Q:Value->Shared->Prop}(X:K.In s.heap)(I:ObjM s.heap x dx C mA)(hg:plainGet K C name=true)(hh:hasDictIn K C=true)(ha:findIn K (.ref C) name=some none)(hv:mA name=some v)(hv':handedIn v=true)(h:Q v {s with toks:=s.toks+1}):
  wpAny (model prog w) A (getAttr (.ref x) name expr) Q E s:=by
 obtain⟨od,J,hl⟩:=I.look;exact PySem.W.get_value X J (plainGet_of hg).1 (PySem.W.findObj_own hh ha rfl (by rw[hl,hv])) hv' h
theorem get_meth{pl:Sem Bool}{Q:Value×List Value->Shared->Prop}(X:K.In s.heap)(I:ObjM s.heap x dx C mA)(hg:plainGet K C name=true)(hf:findIn K (.ref C) name=some (some (.ref f)))(ht:isFn K (.ref f)=true)(hv:mA name=none)(h:Q (.ref f,[.ref x]) s):
  wpAny (model prog w) A (getMethod (.ref x) name pl) Q E s:=by
 obtain⟨od,J,hl⟩:=I.look;exact PySem.W.method_fn X J (plainGet_of hg).1 (plainGet_of hg).2 hf (beq_iff_eq.mp ht) (by show (lookIn name od).map (·.isSome)=some false;rw[hl,hv];rfl) h
theorem set_map{ns:List Str}{Q:Unit->Shared->Prop}(X:K.In s.heap)(I:ObjM s.heap x dx C mA)(hs:findIn K (.ref C) "__setattr__"=some (some (.builtin "object.__setattr__")))(hp:plainOver K C=true)(ht:takerIn K C name=some none)(hh:hasDictIn K C=true)(hw:PySem.Within mA ns)(hsz:ns.length<=sizeLine)(h:∀h',ObjM h' x dx C (λy=>if y=name then some v else mA y)->SameBut dx s.heap h'->Q () {s with heap:=h',toks:=s.toks+2}):
  wpAny (model prog w) A (setAttr (.ref x) name v) Q E s:=by
 obtain⟨od,J,hl⟩:=I.look;refine PySem.W.set_plain X J hs (PySem.W.osa_open (s:={s with toks:=s.toks+1}) (r:=none) X J hp ht λb=> ?_);obtain⟨cd,hc,hd'⟩:=PySem.W.any_some hh;have hx:s.heap.get? x=some ⟨.ref C,some dx,.plain,#[]⟩:=I.obj;refine Gt (Qa0 (Gt (Gt (wpAny_loadPart hx (Gt (PySem.W.Looks.here (s:={s with toks:=s.toks+1}) (PySem.W.looks_clsIn X hc) ?_))))));rw[hd'];refine Qa0 (a:=some dx) (Gt (Qa0 (Gt ?_)));refine wpAny_nsSet1 (s:={s with toks:=s.toks+1}) I.ns λh' hn2 hs2=> ?_;obtain⟨oD,esD,epD,hoD,hdD,hcD⟩:=hn2.count (PySem.Within.cons name v hw);refine Gt (wpAny_lookBehind hoD (by rw[hdD];exact pastItsLine_dict (le_trans hcD (by rw[Qb4];exact lt_of_le_of_lt (by assumption) (by decide)))) ?_);exact Qa0 (h _ ⟨(hs2.2 _ (Ne.symm I.ne)).trans I.obj,hn2,I.ne⟩ hs2)
theorem Zj{R:Result->Shared->Prop}{vs:List Value}{kw:List (Str×Value)}(X:K.In s.heap)(hm:makesIn K C=true)(hi:findIn K (.ref C) "__init__"=some (some (.ref f)))(hf:PySem.W.typeIn K (.ref f)=some (.type "function"))(h:codeAny (model prog w) (A.under (.builtin "type.__call__" ⟨.ref C::vs,kw⟩)) (.call (.ref f) ⟨.ref (s.heap.objs.size+1)::vs,kw⟩) (PySem.W.InitBack (s.heap.objs.size+1) R)
   {s with heap:=(s.heap.push emptyDict).push (instObj C s.heap.objs.size)}):
  codeAny (model prog w) A (.call (.ref C) ⟨vs,kw⟩) R s:=by
 obtain⟨hh,g,d,t,os⟩:=s;exact PySem.W.make_core (PySem.W.makes_of X hm) (PySem.W.looks_findIn X hi) (λself=>PySem.W.bind_fn X self hf) (.inl rfl) h
end
def Fu(f:Str)(v:V):List (Str×V)->List (Str×V)
 |[]=>[(f,v)]
 |(g,x)::r=>if g=f then (g,v)::r else (g,x)::Fu f v r
theorem Ek(f g:Str)(v:V):∀fs:List (Str×V),(Fu f v fs).lookup g=if g=f then some v else fs.lookup g
 |[]=>by
  show List.lookup g [(f,v)]=_;by_cases h:g=f
  ·have hb:(g==f)=true:=beq_iff_eq.mpr h;simp only[List.lookup,hb,Qa2 h]
  ·have hb:(g==f)=false:=Qe8.mpr h;simp only[List.lookup,hb,Qa1 h]
 |(k,x)::r=>by
  have ih:=Ek f g v r;rw[show Fu f v ((k,x)::r)=(if k=f then (k,v)::r else (k,x)::Fu f v r) from rfl];by_cases hk:k=f
  ·rw[Qa2 hk];by_cases h:g=k
   ·have hb:(g==k)=true:=beq_iff_eq.mpr h;simp only[List.lookup,hb,Qa2 (h.trans hk)]
   ·have hb:(g==k)=false:=Qe8.mpr h;simp only[List.lookup,hb,Qa1 (λe:g=f=>h (e.trans hk.symm))]
  ·rw[Qa1 hk];by_cases h:g=k
   ·have hb:(g==k)=true:=beq_iff_eq.mpr h;simp only[List.lookup,hb,Qa1 (λe:g=f=>hk (h.symm.trans e))]
   ·have hb:(g==k)=false:=Qe8.mpr h;simp only[List.lookup,hb];exact ih
theorem Ju(f:Str)(v:V):∀fs:List (Str×V),f∈(Fu f v fs).map (·.1)/\∀g,g∈fs.map (·.1)->g∈(Fu f v fs).map (·.1)
 |[]=>⟨by simp[Fu],λg h=>by simp at h⟩
 |(k,x)::r=>by
  obtain⟨i1,i2⟩:=Ju f v r;rw[show Fu f v ((k,x)::r)=(if k=f then (k,v)::r else (k,x)::Fu f v r) from rfl];by_cases hk:k=f
  ·rw[Qa2 hk];subst hk;exact⟨by simp,λg h=>by simpa using h⟩
  ·rw[Qa1 hk];refine⟨?_,λg h=> ?_⟩
   ·rw[Qb1];exact Qa8 _ i1
   ·rw[Qb1] at h ⊢;rcases Qa6.mp h with e|e
    ·exact Qa6.mpr (.inl e)
    ·exact Qa8 _ (i2 g e)
theorem J0(f:Str)(v:V):∀fs:List (Str×V),(Fu f v fs).length<=fs.length+1
 |[]=>by simp[Fu]
 |(k,x)::r=>by
  have ih:=J0 f v r;rw[show Fu f v ((k,x)::r)=(if k=f then (k,v)::r else (k,x)::Fu f v r) from rfl];by_cases hk:k=f
  ·rw[Qa2 hk,Qb4,Qb4];exact le_add_right _ _
  ·rw[Qa1 hk,Qb4,Qb4];exact Nat.succ_le_succ (by assumption)
theorem RelO.some_of{v:V}{o:Option Value}(r:RelO (some v) o):∃u,o=some u/\RelV v u:=by
 cases o with
 |none=>exact(show False from r).elim
 |some u=>exact⟨u,rfl,r⟩
theorem RelO.none_of{o:Option Value}(r:RelO none o):o=none:=by
 cases o with
 |none=>rfl
 |some u=>exact(show False from r).elim
theorem Xi{v:V}{u:Value}(r:RelV v u):handedIn u=true:=by
 cases v with
 |non=>cases (show u=Value.none from r);rfl
 |bl b=>cases (show u=Value.bool b from r);rfl
 |int i=>obtain⟨t,e⟩:=(show ∃t,u=Value.int i t from r);cases e;rfl
 |str x=>obtain⟨t,e⟩:=(show ∃t,u=Value.str x t from r);cases e;rfl
 |byt b=>obtain⟨t,e⟩:=(show ∃t,u=Value.bytes b t from r);cases e;rfl
 |flt b=>obtain⟨t,e⟩:=(show ∃t,u=Value.float b t from r);cases e;rfl
 |ref a=>cases (show u=Value.ref a from r);rfl
 |ty n=>cases (show u=Value.type n from r);rfl
section
variable{P:Program}{w:World}{H H':Hp}{h h':Heap}{a C dx:Addr}{fs fs':List (Str×V)}
theorem Kv(hok:HOk P w H h)(e:H a=some (.ins C dx fs)):∃mA,ObjM h a dx C mA/\(∀f,RelO (fs.lookup f) (mA f))/\PySem.Within mA (fs.map (·.1))/\fs.length<=1000/\H dx=some (.own a):=by
 obtain⟨d,z,ne,ob,mA,n,r,q⟩:=(show ObjOk P w H h a (.ins C dx fs) from hok a _ e)
 exact⟨mA,⟨ob,n,ne⟩,r,q,z,d⟩
end
structure Cls(K:Frag)(C:Addr):Prop where
 pg:plainGet K C Str.empty=true
 hd:hasDictIn K C=true
 po:plainOver K C=true
 sa:findIn K (.ref C) "__setattr__"=some (some (.builtin "object.__setattr__"))
theorem Cls.get{K:Frag}{C:Addr}(c:Cls K C)(f:Str):plainGet K C f=true:=c.pg
def NoAttr(K:Frag)(C:Addr)(f:Str):Prop:=findIn K (.ref C) f=some none
theorem NoAttr.taker{K:Frag}{C:Addr}{f:Str}(n:NoAttr K C f):takerIn K C f=some none:=by
 unfold takerIn;rw[show findIn K (.ref C) f=some none from n];rfl
structure Fy(K:Frag)(C:Addr)(m:Str)(f:Addr):Prop where
 at_:findIn K (.ref C) m=some (some (.ref f))
 fn:isFn K (.ref f)=true
 kp:keepIn K (.ref f)=true
section
variable{X:Cx}{pins:List (Addr×Obj)}{σ:St}{H:Hp}{s:Shared}{a C dx:Addr}{fs:List (Str×V)}{f:Str}{v:V}{A:Around}{E:Value->Shared->Prop}
theorem Ve{b:Bool}{Q:Value->Shared->Prop}(I:Inv X pins σ H s)(e:H a=some (.ins C dx fs))(c:Cls X.K C)(n:NoAttr X.K C f)(l:fs.lookup f=some v)(h:∀u s',Inv X pins σ H s'->RelV v u->Q u s'):wpAny (model X.prog X.w) A (getAttr (.ref a) f b) Q E s:=by
 obtain⟨mA,O,r,_,_,_⟩:=Kv I.hok e;obtain⟨u,hu,ru⟩:=RelO.some_of (v:=v) (o:=mA f) (by rw[<-l];exact r f);exact get_map I.kIn O (c.get f) c.hd n hu (Xi ru) (h u _ (I.tok _) ru)
theorem Mo{m:Str}{g:Addr}{pl:Sem Bool}{Q:Value×List Value->Shared->Prop}(I:Inv X pins σ H s)(e:H a=some (.ins C dx fs))(c:Cls X.K C)(k:Fy X.K C m g)(l:fs.lookup m=none)(h:Q (.ref g,[.ref a]) s):wpAny (model X.prog X.w) A (getMethod (.ref a) m pl) Q E s:=by
 obtain⟨mA,O,r,_,_,_⟩:=Kv I.hok e;have hn:mA m=none:=RelO.none_of (by rw[<-l];exact r m);exact get_meth I.kIn O (c.get m) k.at_ k.fn hn h
theorem Vf{y:V}{u:Value}{Q:Unit->Shared->Prop}(I:Inv X pins σ H s)(e:H a=some (.ins C dx fs))(c:Cls X.K C)(n:NoAttr X.K C f)(hl:fs.length<1000)(ry:RelV y u)(h:∀s',Inv X pins σ (upd H a (.ins C dx (Fu f y fs))) s'->Q () s'):wpAny (model X.prog X.w) A (setAttr (.ref a) f u) Q E s:=by
 obtain⟨mA,O,r,wi,_,ho⟩:=Kv I.hok e;have hz:(fs.map (·.1)).length<=sizeLine:=by rw[If,Qb3];exact le_trans (by assumption) (by decide)
 refine set_map I.kIn O c.sa c.po n.taker c.hd wi hz λh' O' sb=>h _ ?_;have hd:∃o,h'.get? dx=some o:=let ⟨o,_,_,e',_⟩:=O'.ns;⟨o,e'⟩
 refine I.write (x:=a) (e:=dx) (by rw[e];exact True.intro) (.inr ho) (λb q hb z=>(sb.2 b hb).trans z) hd ?_;refine⟨by rw[Ai O.ne];exact ho,?_,O.ne,O'.obj,_,O'.ns,λg=> ?_,λg hg=> ?_⟩
 ·have:=J0 f y fs;exact le_trans (by assumption) (by assumption)
 ·show RelO ((Fu f y fs).lookup g) (if g=f then some u else mA g);rw[Ek];by_cases q:g=f
  ·rw[Qa2 q,Qa2 q];exact ry
  ·rw[Qa1 q,Qa1 q];exact r g
 ·by_cases q:g=f
  ·rw[q];exact(Ju f y fs).1
  ·refine(Ju f y fs).2 g (wi g λz=>hg ?_);show (if g=f then some u else mA g)=none;rw[Qa1 q];exact z
theorem Inv.made(I:Inv X pins σ H s):Inv X pins σ (upd (upd H s.heap.objs.size (.own (s.heap.objs.size+1))) (s.heap.objs.size+1) (.ins C s.heap.objs.size []))
  {s with heap:=(s.heap.push emptyDict).push (instObj C s.heap.objs.size)}:=by
 have e1:(s.heap.push emptyDict).get? s.heap.objs.size=some emptyDict:=Qa5 s.heap rfl;have e2:((s.heap.push emptyDict).push (instObj C s.heap.objs.size)).get? (s.heap.objs.size+1)=some (instObj C s.heap.objs.size):=by
  have:=Qa5 (s.heap.push emptyDict) (o:=instObj C s.heap.objs.size) rfl
  rwa [size_push] at this
 have e3:(s.heap.push emptyDict).Ns s.heap.objs.size (λ_=>none):=⟨emptyDict,#[],_,e1,rfl,(λe he=>absurd he (by simp)),λ_=>rfl⟩
 have I1:=I.laid (a:=s.heap.objs.size) (o:= .own (s.heap.objs.size+1)) (h':=s.heap.push emptyDict) (t':=s.toks) (λb u q=>Lt _ q) (le_refl _) ⟨_,e1⟩;refine I1.laid (a:=s.heap.objs.size+1) (o:= .ins C s.heap.objs.size []) (t':=s.toks) (λb u q=>Lt _ q) (le_of_eq (size_push _ _)) ?_;have ne:s.heap.objs.size≠s.heap.objs.size+1:=ne_of_lt (Nat.lt_succ_self _);refine⟨by rw[Ai ne,Ab],Qc5 _,ne,e2,λ_=>none,(Heap.Ns1.of_empty e3).at λo q=>Lt _ q,λ_=>True.intro,λy hy=>absurd rfl hy⟩
theorem attr_of{prog:Program}{w:World}{env:Env}{e:Expr}{f:Str}{pos:Pos}{s:Shared}{Q:Value->Shared->Prop}(hb:attributeBase e f env (eval e env)=eval e env)(h:wpAny (model prog w) A (eval e env) (λo s₁=>wpAny (model prog w) A (getAttr o f true) Q E s₁) E s):wpAny (model prog w) A (eval (.Attribute e f pos) env) Q E s:=
 Attribute_any_ h (by rw[arm_eval_Attribute,hb])
end
def tFld(K:Frag)(ta:TE)(f:Str):TE:=λσ H Q=>ta σ H λx H1=>∃a C dx fs v,x= .ref a/\H1 a=some (.ins C dx fs)/\Cls K C/\NoAttr K C f/\fs.lookup f=some v/\Q v H1
def sFld(K:Frag)(ta tv:TE)(f:Str):TS:=λD σ H=>tv σ H λy H1=>ta σ H1 λx H2=>∃a C dx fs,x= .ref a/\H2 a=some (.ins C dx fs)/\Cls K C/\NoAttr K C f/\fs.length<1000/\
 D.nx σ (upd H2 a (.ins C dx (Fu f y fs)))
section
variable{X:Cx}{o e value:Expr}{f:Str}{pos pos' tpos:Pos}{ta tv:TE}
theorem Qg(he:PE X e ta)(hb:attributeBase e f X.env (eval e X.env)=eval e X.env):PE X (.Attribute e f pos) (tFld X.K ta f):=by
 intro pins s σ H Q I h;refine attr_of hb (thn (he pins s σ H _ I h) λu s1 ⟨x,H1,I1,rx,a,C,dx,fs,v,ex,ea,c,n,l,q⟩=> ?_);subst ex;obtain rfl:u=Value.ref a:=rx;exact Ve I1 ea c n l λu' s2 I2 ru=>⟨v,H1,I2,ru,q⟩
theorem Zu(ha:PE X o ta)(hv:PE X value tv)(hs:swapsWith value (some (.Attribute o f pos')) pos.line X.env=pure false):PS X (.Assign [.Attribute o f pos'] value pos) (sFld X.K ta tv f):=by
 intro pins s σ H D I h;refine plainObj_wpAny_Assign_Attribute (thn (hv pins s σ H _ I h) λu s1 ⟨y,H1,I1,ry,q⟩=>thn (ha pins s1 σ H1 _ I1 q) λov s2 ⟨x,H2,I2,rx,a,C,dx,fs,ex,ea,c,n,l,q2⟩=> ?_) hs;subst ex;obtain rfl:ov=Value.ref a:=rx;exact Vf I2 ea c n l ry λs3 I3=>⟨σ,_,I3,q2⟩
end
section
variable{X:Cx}{pins:List (Addr×Obj)}{σ:St}{H:Hp}{s:Shared}{A:Around}{E:Value->Shared->Prop}{Q:Value->Shared->Prop}{c:Value}{b:Bool}
inductive Jk(K:Frag)(H:Hp):V->Value->Prop where
 |non:Jk K H .non (.type "NoneType")
 |bl (x:Bool):Jk K H (.bl x) (.type "bool")
 |int (i:Int):Jk K H (.int i) (.type "int")
 |str (x:Str):Jk K H (.str x) (.type "str")
 |flt (x:UInt64):Jk K H (.flt x) (.type "float")
 |lst {a:Addr} {xs:List V} (e:H a=some (.lst xs)):Jk K H (.ref a) (.type "list")
 |frz {a:Addr} {o:Obj} {xs:List V} (e:H a=some (.frz o (.lst xs))):Jk K H (.ref a) (.type "list")
 |tup {a:Addr} {xs:List V} (e:H a=some (.tup xs)):Jk K H (.ref a) (.type "tuple")
 |dK {a:Addr} {kvs:List (Key×V)} (e:H a=some (.dK kvs)):Jk K H (.ref a) (.type "dict")
 |dT {a:Addr} {kvs:List (List Key×V)} (e:H a=some (.dT kvs)):Jk K H (.ref a) (.type "dict")
 |ins {a C dx:Addr} {fs:List (Str×V)} (e:H a=some (.ins C dx fs)) (cl:Cls K C) (ha:findIn K (.ref C) "__class__"=some (some (.builtin "object.__class__")))
  (hn:PySem.W.specialIn K (.builtin "object.__class__") "__get__"=some (some (.builtin "getset_descriptor.__get__"))) (htk:PySem.W.takesIn K (.builtin "object.__class__")=some true)
  (hm:PySem.W.mroIn K C (.type "object")=some true):Jk K H (.ref a) (.ref C)
theorem Ww{x:V}{u t:Value}(I:Inv X pins σ H s)(rx:RelV x u)(ty:Jk X.K H x t)(e:kitOne X.K t c=some b)(h:∀tk,Q (.bool b) {s with toks:=tk}):
  wpAny (model X.prog X.w) A (call (.builtin "isinstance") [u,c]) Q E s:=by
 cases ty with
 |non=>cases (show u=Value.none from rx);exact kia_one PySem.W.kitx_none I.kIn True.intro e (λz=>nomatch z) h
 |bl y=>cases (show u=Value.bool y from rx);exact kia_one PySem.W.kitx_bool I.kIn True.intro e (λz=>nomatch z) h
 |int i=>obtain⟨t,q⟩:=(show ∃t,u=Value.int i t from rx);cases q;exact kia_one PySem.W.kitx_int I.kIn True.intro e (λz=>nomatch z) h
 |str y=>obtain⟨t,q⟩:=(show ∃t,u=Value.str y t from rx);cases q;exact kia_one PySem.W.kitx_str I.kIn True.intro e (λz=>nomatch z) h
 |flt y=>obtain⟨t,q⟩:=(show ∃t,u=Value.float y t from rx);cases q;exact kia_one PySem.W.kitx_float I.kIn True.intro e (λz=>nomatch z) h
 | @lst a xs ea=>
  cases (show u=Value.ref a from rx);obtain⟨_,_,n,_,h1⟩:=(show ObjOk X.prog X.w H s.heap a (.lst xs) from I.hok a _ ea)
  exact kia_one kitx_list I.kIn ⟨_,h1,rfl⟩ e (λz=>nomatch z) h
 | @frz a ob xs ea=>
  cases (show u=Value.ref a from rx);obtain⟨_,_,_,n,_,h1⟩:=(show ObjOk X.prog X.w H s.heap a (.frz ob (.lst xs)) from I.hok a _ ea)
  exact kia_one kitx_list I.kIn ⟨_,h1,rfl⟩ e (λz=>nomatch z) h
 | @tup a xs ea=>
  cases (show u=Value.ref a from rx);obtain⟨_,_,_,p⟩:=(show ObjOk X.prog X.w H s.heap a (.tup xs) from I.hok a _ ea)
  obtain⟨o,h1,h2,_⟩:=p;exact kia_one PySem.W.kitx_tuple I.kIn ⟨o,h1,h2⟩ e (λz=>nomatch z) h
 | @dK a kvs ea=>
  cases (show u=Value.ref a from rx);obtain⟨_,_,vs,_,p⟩:=(show ObjOk X.prog X.w H s.heap a (.dK kvs) from I.hok a _ ea)
  obtain⟨o,es,ep,h1,h2,_⟩:=p;exact kia_one kitx_dict I.kIn ⟨o,h1,h2.1⟩ e (λz=>nomatch z) h
 | @dT a kvs ea=>
  cases (show u=Value.ref a from rx);obtain⟨_,_,xs,_,o,es,ep,h1,h2,_⟩:=(show ObjOk X.prog X.w H s.heap a (.dT kvs) from I.hok a _ ea)
  exact kia_one kitx_dict I.kIn ⟨o,h1,h2.1⟩ e (λz=>nomatch z) h
 | @ins a C dx fs ea cl ha hn htk hm=>
  cases (show u=Value.ref a from rx);obtain⟨mA,O,_⟩:=Kv I.hok ea;obtain⟨od,J,_⟩:=O.look;exact kia_one (PySem.W.kitx_own (cl.get _) cl.hd ha hn htk hm) I.kIn J e (λz=>nomatch z) h
end
structure Room(k:Nat)(A:Around):Prop where
 hd:A.handled=none
 dp:A.depth+3 * k+5<recursionLimit
 un:A.units+16 * k+200<cLine
 gd:A.guards=some []
theorem Room.mono{j k:Nat}{A:Around}(r:Room k A)(h:j<=k):Room j A:=⟨r.hd,by have:=r.dp;omega,by have:=r.un;omega,r.gd⟩
theorem Room.deeper{k:Nat}{A:Around}(r:Room (k+1) A)(env:Env):Room k (A.deeper env):=
 ⟨r.hd,by have:=r.dp;show A.depth+1+3 * k+5<_;omega,by have:=r.un;show A.units+3+16 * k+200<_;omega,by show pushGuards [] A.guards=some [];rw[r.gd];rfl⟩
theorem Te{A:Around}{C:Addr}{us:List Value}{kw:List (Str×Value)}:(A.under (.builtin "type.__call__" ⟨.ref C::us,kw⟩)).depth=A.depth+1:=by
 first|rfl|simp[Around.under,Code.weight,Code.isCreation,Code.isGuard,Code.isCaller,Code.frames,Code.isFrame,guardIds]
theorem Ux{A:Around}{C:Addr}{us:List Value}{kw:List (Str×Value)}:(A.under (.builtin "type.__call__" ⟨.ref C::us,kw⟩)).units=A.units+1:=by
 first|rfl|simp[Around.under,Code.cUnits,Code.frames,Code.isFrame]
theorem Sy{A:Around}{C:Addr}{us:List Value}{kw:List (Str×Value)}:(A.under (.builtin "type.__call__" ⟨.ref C::us,kw⟩)).guards=A.guards:=by
 cases h:A.guards<;> simp[Around.under,Code.guards,Code.isGuard,guardIds,pushGuards,h]
theorem Room.make{k:Nat}{A:Around}(r:Room (k+1) A)(C:Addr)(us:List Value)(kw:List (Str×Value)):Room k (A.under (.builtin "type.__call__" ⟨.ref C::us,kw⟩)):=
 ⟨r.hd,by have:=r.dp;rw[Te];omega,by have:=r.un;rw[Ux];omega,by rw[Sy];exact r.gd⟩
theorem Room.depth{k:Nat}{A:Around}(r:Room k A):A.depth<recursionLimit:=by have:=r.dp;omega
theorem Room.units{k:Nat}{A:Around}(r:Room k A):A.units+64<cLine:=by have:=r.un;omega
theorem Room.units0{k:Nat}{A:Around}(r:Room k A):A.units<cLine:=by have:=r.un;omega
def tNil:TA:=λ_ H Q=>Q [] H
def tCons(ta:TE)(tr:TA):TA:=λσ H Q=>ta σ H λx H1=>tr σ H1 λxs H2=>Q (x::xs) H2
section
variable{X:Cx}{e:Expr}{es:List Expr}{te:TE}{t:TA}{pos:Pos}
theorem Ad:PA X [] tNil:=λ_ _ _ _ H Q I h=>Calls.spliced_nil ⟨[],H,I,.nil,h⟩
theorem Aa(ha:PE X e te)(hr:PA X es t)(hs:starEach (e::es) X.env=(false,eval e X.env)::starEach es X.env:=by rfl):PA X (e::es) (tCons te t):=by
 intro pos pins s σ H Q I h;rw[hs];show wpAny _ _ (spliced ((false,eval e X.env)::backTo pos (starEach es X.env))) _ _ s;refine Calls.spliced_cons (thn (ha pins s σ H _ I h) λu s1 ⟨x,H1,I1,r1,q1⟩=> ?_);exact thn (hr pos pins s1 σ H1 _ I1 q1) λus s2 ⟨xs,H2,I2,r2,q2⟩=>⟨x::xs,H2,I2,.cons r1 r2,q2⟩
def tTup(t:TA):TE:=λσ H Q=>t σ H λxs H1=>xs.length<=sizeLine/\∀p,H1 p=none->Q (.ref p) (upd H1 p (.tup xs))
def tLst(t:TA):TE:=λσ H Q=>t σ H λxs H1=>xs.length<=sizeLine/\∀p,H1 p=none->Q (.ref p) (upd H1 p (.lst xs))
theorem A1{x1}(h:PA X es t):PE X (.Tuple es x1 pos) (tTup t):=by
 intro pins s σ H Q I hq;refine wpAny_Tuple_spliced (thn (h pos pins s σ H _ I hq) λus s1 ⟨xs,H1,I1,r,z,q⟩=>⟨by rw[<-r.length];exact z,?_⟩);have hf:H1 s1.heap.objs.size=none:=I1.hok.fresh (le_refl _);refine⟨.ref s1.heap.objs.size,upd H1 s1.heap.objs.size (.tup xs),I1.laid (t':=s1.toks) (λb u e=>Lt _ e) (le_refl _) ?_,rfl,q _ hf⟩;exact⟨z,us,r,IsTupN.new _ _⟩
theorem Bh(h:PA X es t):PE X (.List es pos) (tLst t):=by
 intro pins s σ H Q I hq;refine wpAny_List_spliced (thn (h pos pins s σ H _ I hq) λus s1 ⟨xs,H1,I1,r,z,q⟩=>⟨by rw[<-r.length];exact z,?_⟩);have hf:H1 s1.heap.objs.size=none:=I1.hok.fresh (le_refl _);refine⟨.ref s1.heap.objs.size,upd H1 s1.heap.objs.size (.lst xs),I1.laid (t':=s1.toks) (λb u e=>Lt _ e) (le_refl _) ?_,rfl,q _ hf⟩;exact⟨z,us,0,r,Qa5 _ rfl⟩
end
abbrev Sp:=List V->Hp->VK->XK->Prop
abbrev CXT:=List Env->Hp->Shared->XK->Value->Shared->Prop
structure Env0(P:Program)(w:World)(K:Frag)(mg:Str->Option Value)(base:Heap)(A:Around)(outer:List Env)(s:Shared)(H:Hp):Prop where
 frames:A.frames=some outer
 mod:Mod K mg base
 bs:∀b o,base.get? b=some o->s.heap.get? b=some o/\H b=none
 bsz:base.objs.size<=s.heap.objs.size
 funs:s.heap.FunFrames base outer
 frf:∀b∈frs outer,H b=none
 hok:HOk P w H s.heap
 bare:AllBare s.gens
def CE(outer:List Env)(P:Program)(w:World)(H:Hp)(s:Shared)(Q:VK)(u:Value)(s':Shared):Prop:=
 ∃v H',s'.os=s.os/\AllBare s'.gens/\Un (frs outer) [] H H' s.heap s'.heap/\HOk P w H' s'.heap/\RelV v u/\Q v H'
def CR(CX:CXT)(outer:List Env)(P:Program)(w:World)(H:Hp)(s:Shared)(Q:VK)(E:XK)(r:Result)(s':Shared):Prop:=
 match r with
 | .ok (.ret u)=>CE outer P w H s Q u s'
 | .ok _=>False
 | .error e=>CX outer H s E e s'
structure FnOk(P:Program)(w:World)(K:Frag)(mg:Str->Option Value)(base:Heap)(CX:CXT)(k:Nat)(f:Addr)(fd:FuncData)(ps:List Str)(sp:Sp):Prop where
 len:∀vs H Q E,sp vs H Q E->vs.length=ps.length
 run:∀(A:Around) (outer:List Env) (s:Shared) (H:Hp) (args:Args) (us:List Value) (vs:List V) (Q:VK) (E:XK),Room k A->Env0 P w K mg base A outer s H->BindsTo s fd args (ps.zip us)->Vals vs us->sp vs H Q E->
  codeAny (model P w) A (.call (.ref f) args) (CR CX outer P w H s Q E) s
theorem FnOk.mono{P:Program}{w:World}{K:Frag}{mg:Str->Option Value}{base:Heap}{CX:CXT}{j k:Nat}{f:Addr}{fd:FuncData}{ps:List Str}{sp:Sp}(F:FnOk P w K mg base CX j f fd ps sp)(h:j<=k):
  FnOk P w K mg base CX k f fd ps sp:=⟨F.len,λA outer s H args us vs Q E hr=>F.run A outer s H args us vs Q E (hr.mono h)⟩
theorem Env0.make{P:Program}{w:World}{K:Frag}{mg:Str->Option Value}{base:Heap}{A:Around}{outer:List Env}{s:Shared}{H:Hp}(e:Env0 P w K mg base A outer s H)(C:Addr)(us:List Value)(kw:List (Str×Value)):
  Env0 P w K mg base (A.under (.builtin "type.__call__" ⟨.ref C::us,kw⟩)) outer s H:=⟨by first|exact e.frames|(simpa[Around.under,Code.envs,Code.isFrame,pushEnvs] using e.frames),e.mod,e.bs,e.bsz,e.funs,e.frf,e.hok,e.bare⟩
section
variable{X:Cx}{pins:List (Addr×Obj)}{σ:St}{H:Hp}{s s':Shared}
theorem Inv.env0(I:Inv X pins σ H s):Env0 X.prog X.w X.K X.mg X.base X.A X.stack s H:=
 ⟨I.ok.frames,I.ok.mod,I.bs,le_trans I.ok.bsz I.sz,I.stack,I.stkFree,I.hok,I.bare⟩
theorem Inv.after{Q:VK}{u:Value}(I:Inv X pins σ H s)(h:CE X.stack X.prog X.w H s Q u s'):EP X pins σ Q u s':=by
 obtain⟨v,H',os,bare,un,hok,r,q⟩:=h;obtain⟨hh,g,d,t,os'⟩:=s';obtain rfl:os'=s.os:=os;exact⟨v,H',I.call (h':=hh) (g':=g) (d':=d) (t':=t) (ch:=[]) un hok bare (λb z=>absurd z (by simp)),r,q⟩
end
def tCall(sp:Sp)(dvs:List V)(E:XK)(t:TA):TE:=λσ H Q=>t σ H λvs H1=>sp (vs++dvs) H1 Q E
def tMeth(C:Addr)(m:Str)(sp:Sp)(dvs:List V)(E:XK)(ta:TE)(t:TA):TE:=λσ H Q=>ta σ H λx H1=>∃a dx fs,x= .ref a/\H1 a=some (.ins C dx fs)/\fs.lookup m=none/\
 t σ H1 λvs H2=>sp (x::(vs++dvs)) H2 Q E
def tMake(C:Addr)(sp:Sp)(dvs:List V)(E:XK)(t:TA):TE:=λσ H Q=>t σ H λvs H1=>∀x dx,H1 x=none->H1 dx=none->dx≠x->
 sp (.ref x::(vs++dvs)) (upd (upd H1 dx (.own x)) x (.ins C dx [])) (λv H2=>v= .non/\Q (.ref x) H2) E
def Binds(K:Frag)(fd:FuncData)(ps:List Str)(ds:List Value):Prop:=
 ∀(s:Shared) (us:List Value),K.In s.heap->(us++ds).length=ps.length->BindsTo s fd ⟨us,[]⟩ (ps.zip (us++ds))
theorem Binds.all{K:Frag}{fd:FuncData}{ps:List Str}(h:∀us:List Value,us.length=ps.length->bindArgs fd ⟨us,[]⟩=pure (ps.zip us)):Binds K fd ps []:=λs us _ hl=>by
 rw[Qc9] at hl ⊢;exact .of_eq (h us hl)
def Hk(CX:CXT)(X:Cx)(E:XK):Prop:=∀(pins:List (Addr×Obj)) (σ:St) (H:Hp) (s:Shared) (e:Value) (s':Shared),Inv X pins σ H s->CX X.stack H s E e s'->X.xe e s'
section
variable{X:Cx}{CX:CXT}{k:Nat}{f C:Addr}{fd:FuncData}{ps:List Str}{sp:Sp}{dvs:List V}{ds:List Value}{E:XK}{x m:Str}{p pos apos:Pos}{e o:Expr}{es:List Expr}{ta:TE}{t:TA}
theorem Ug{pins:List (Addr×Obj)}{σ:St}{H:Hp}{s:Shared}{Q:VK}{us:List Value}{vs:List V}(F:FnOk X.prog X.w X.K X.mg X.base CX k f fd ps sp)(hr:Room k X.A)(hb:Binds X.K fd ps ds)(hd:Vals dvs ds)(hx:Hk CX X E)(I:Inv X pins σ H s)(r:Vals vs us)(h:sp (vs++dvs) H Q E):wpAny (model X.prog X.w) X.A (call (.ref f) us) (EP X pins σ Q) X.xe s:=by
 have r2:Vals (vs++dvs) (us++ds):=r.append hd;have hl:(us++ds).length=ps.length:=by rw[<-r2.length];exact F.len _ _ _ _ h
 refine wpAny_call (Qg5 (F.run X.A X.stack s H ⟨us,[]⟩ (us++ds) (vs++dvs) Q E hr I.env0 (hb s us I.kIn hl) r2 h) λr s' hq=> ?_);cases r with
 |error e=>exact hx pins σ H s e s' I hq
 |ok fl=>
  cases fl with
  |ret u=>exact I.after hq
  |next=>exact False.elim hq
  |brk=>exact False.elim hq
  |cont=>exact False.elim hq
theorem Go(F:FnOk X.prog X.w X.K X.mg X.base CX k f fd ps sp)(hr:Room k X.A)(hg:Gl X x)(hm:X.mg x=some (.ref f))(hk:keepIn X.K (.ref f)=true)(hb:Binds X.K fd ps ds)(hd:Vals dvs ds)(hx:Hk CX X E)(ha:PA X (e::es) t)(hdb:(x==("__debug__":Str))=false:=by decide)(he:starEach (e::es) X.env=(false,eval e X.env)::starEach es X.env:=by rfl)(hpl:(backTo pos (starEach es X.env)).any (·.1)=false:=by rfl):
  PE X (.Call (.Name x p) (e::es) [] pos) (tCall sp dvs E t):=by
 intro pins s σ H Q I h;refine Qf1 (Vq I hg hm ?_ hdb);refine callWith_K (h₀:=X.base) I.ok.mod.kin hk (thn (ha pos pins s σ H _ I h) λus s1 ⟨vs,H1,I1,r,q⟩=>⟨I1.kIn,?_⟩) he hpl;exact Ug F hr hb hd hx I1 r q
theorem Gy{pl:Sem Bool}(he:PE X o ta)(c:Cls X.K C)(hm:Fy X.K C m f)(F:FnOk X.prog X.w X.K X.mg X.base CX k f fd ps sp)(hr:Room k X.A)(hb:Binds X.K fd ps ds)(hd:Vals dvs ds)(hx:Hk CX X E)(ha:PA X (e::es) t)(hst:starEach (e::es) X.env=(false,eval e X.env)::starEach es X.env:=by rfl)(hpl:(backTo pos (starEach es X.env)).any (·.1)=false:=by rfl)(ht:eval (.Call (.Attribute o m apos) (e::es) [] pos) X.env=(do
   let ov <-eval o X.env
   standAt apos.atName
   let (f,first) <-holding [ov] (getMethod ov m pl)
   callWith pos f first (backTo pos (starEach (e::es) X.env)) (backToKw pos (keywordEach [] X.env))):=by rfl):
  PE X (.Call (.Attribute o m apos) (e::es) [] pos) (tMeth C m sp dvs E ta t):=by
 intro pins s σ H Q I h;refine PySem.W.methodCall_KW (pl:=pl) (thn (he pins s σ H _ I h) λu s1 ⟨x,H1,I1,rx,a,dx,fs,ex,ea,l,q⟩=> ?_) ht;subst ex;obtain rfl:u=Value.ref a:=rx;refine Mo I1 ea c hm l ?_;refine callWith_K (first:=[.ref a]) (h₀:=X.base) I.ok.mod.kin hm.kp (thn (ha pos pins s1 σ H1 _ I1 q) λus s2 ⟨vs,H2,I2,r,q2⟩=>⟨I2.kIn,?_⟩) hst hpl;exact Ug (us:= .ref a::us) (vs:= .ref a::vs) F hr hb hd hx I2 (.cons rfl r) q2
theorem Di{pl:Sem Bool}(he:PE X o ta)(c:Cls X.K C)(hm:Fy X.K C m f)(F:FnOk X.prog X.w X.K X.mg X.base CX k f fd ps sp)(hr:Room k X.A)(hb:Binds X.K fd ps ds)(hd:Vals dvs ds)(hx:Hk CX X E)(ht:eval (.Call (.Attribute o m apos) [] [] pos) X.env=(do
   let ov <-eval o X.env
   standAt apos.atName
   let (f,first) <-holding [ov] (getMethod ov m pl)
   callWith pos f first (backTo pos (starEach [] X.env)) (backToKw pos (keywordEach [] X.env))):=by rfl):
  PE X (.Call (.Attribute o m apos) [] [] pos) (tMeth C m sp dvs E ta tNil):=by
 intro pins s σ H Q I h;refine PySem.W.methodCall_KW (pl:=pl) (thn (he pins s σ H _ I h) λu s1 ⟨x,H1,I1,rx,a,dx,fs,ex,ea,l,q⟩=> ?_) ht;subst ex;obtain rfl:u=Value.ref a:=rx;refine Mo I1 ea c hm l ?_;exact PySem.W.callWith_K0 (first:=[.ref a]) I1.kIn hm.kp (Ug (us:=[.ref a]) (vs:=[.ref a]) F hr hb hd hx I1 (.cons rfl .nil) q)
structure Mk(K:Frag)(C f:Addr):Prop where
 makes:makesIn K C=true
 init:findIn K (.ref C) "__init__"=some (some (.ref f))
 fn:isFn K (.ref f)=true
 kp:keepIn K (.ref C)=true
theorem run_make{pins:List (Addr×Obj)}{σ:St}{H:Hp}{s:Shared}{Q:VK}{us:List Value}{vs:List V}(M:Mk X.K C f)(F:FnOk X.prog X.w X.K X.mg X.base CX k f fd ps sp)(hr:Room (k+1) X.A)(hb:Binds X.K fd ps ds)(hd:Vals dvs ds)(hx:Hk CX X E)(I:Inv X pins σ H s)(r:Vals vs us)(h:∀x dx,H x=none->H dx=none->dx≠x->sp (.ref x::(vs++dvs)) (upd (upd H dx (.own x)) x (.ins C dx [])) (λv H2=>v= .non/\Q (.ref x) H2) E):
  wpAny (model X.prog X.w) X.A (call (.ref C) us) (EP X pins σ Q) X.xe s:=by
 have hq:=h (s.heap.objs.size+1) s.heap.objs.size (I.hok.fresh (le_succ _)) (I.hok.fresh (le_refl _)) (ne_of_lt (Nat.lt_succ_self _));have I2:=Inv.made (C:=C) I;have r2:Vals (V.ref (s.heap.objs.size+1)::(vs++dvs)) (Value.ref (s.heap.objs.size+1)::(us++ds)):= .cons rfl (r.append hd);have hl:(Value.ref (s.heap.objs.size+1)::us++ds).length=ps.length:=by
  have e:=r2.length;rw[F.len _ _ _ _ hq] at e;exact e.symm
 refine wpAny_call (Zj (f:=f) I.kIn M.makes M.init (beq_iff_eq.mp M.fn) (Qg5 (F.run _ X.stack _ _ ⟨Value.ref (s.heap.objs.size+1)::us,[]⟩ (Value.ref (s.heap.objs.size+1)::(us++ds)) _ _ E (hr.make C us [])
  (I2.env0.make C us []) (hb _ (Value.ref (s.heap.objs.size+1)::us) I2.kIn hl) r2 hq) λr s' hq'=> ?_))
 cases r with
 |error e=>exact hx pins σ _ _ e s' I2 hq'
 |ok fl=>
  cases fl with
  |ret u=>
   obtain⟨v,H',I3,rv,ev,q3⟩:=I2.after hq';subst ev;exact⟨rv,⟨V.ref (s.heap.objs.size+1),H',I3,rfl,q3⟩⟩
  |next=>exact False.elim hq'
  |brk=>exact False.elim hq'
  |cont=>exact False.elim hq'
theorem pe_make(M:Mk X.K C f)(F:FnOk X.prog X.w X.K X.mg X.base CX k f fd ps sp)(hr:Room (k+1) X.A)(hg:Gl X x)(hm:X.mg x=some (.ref C))(hb:Binds X.K fd ps ds)(hd:Vals dvs ds)(hx:Hk CX X E)(ha:PA X (e::es) t)(hdb:(x==("__debug__":Str))=false:=by decide)(he:starEach (e::es) X.env=(false,eval e X.env)::starEach es X.env:=by rfl)(hpl:(backTo pos (starEach es X.env)).any (·.1)=false:=by rfl):
  PE X (.Call (.Name x p) (e::es) [] pos) (tMake C sp dvs E t):=by
 intro pins s σ H Q I h;refine Qf1 (Vq I hg hm ?_ hdb);refine callWith_K (h₀:=X.base) I.ok.mod.kin M.kp (thn (ha pos pins s σ H _ I h) λus s1 ⟨vs,H1,I1,r,q⟩=>⟨I1.kIn,?_⟩) he hpl;exact run_make M F hr hb hd hx I1 r q
end
structure Av(N P:List Str)(sc:Scope):Prop where
 kind:sc.kind= .function
 co:sc.isCoroutine=false
 gen:sc.isGenerator=false
 nd:N.Nodup
 pre:N.take P.length=P
 par:∀x∈P,sc.names.lookup x=some .local\/sc.names.lookup x=some .cell
 nofree:∀y∈sc.names,y.2≠ .free
theorem Np{kindOf:Str->Option NameKind}{x:Str}:∀{binds:List (Str×Value)} {m:Str->Option Value},(∀v,(x,v) ∉ binds)->bindL kindOf binds m x=m x
 |[],_,_=>rfl
 |(n,v)::r,m,h=>by
  unfold bindL;rw[Np λw hw=>h w (Qa8 _ hw)];split
  ·have:x≠n:=by rintro rfl;exact h v Qa9
   simp[this]
  ·rfl
theorem Ob{kindOf:Str->Option NameKind}{x:Str}:∀{binds:List (Str×Value)} {m:Str->Option Value},(∀v,(x,v) ∉ binds)->bindC kindOf binds m x=m x
 |[],_,_=>rfl
 |(n,v)::r,m,h=>by
  unfold bindC;rw[Ob λw hw=>h w (Qa8 _ hw)];split
  ·rfl
  ·have:x≠n:=by rintro rfl;exact h v Qa9
   simp[this]
theorem N6{kindOf:Str->Option NameKind}{x:Str}{v:Value}:∀{P:List Str} {vs:List Value} {i:Nat} {m:Str->Option Value},P.Nodup->P[i]? =some x->vs[i]? =some v->kindOf x=some .local->
  bindL kindOf (P.zip vs) m x=some v
 |[],_,_,_,_,h,_,_=>by simp at h
 |_::_,[],_,_,_,_,h,_=>by simp at h
 |p::P,w::vs,0,m,nd,h1,h2,hk=>by
  simp at h1 h2;subst h1;subst h2;show bindL kindOf ((p,w)::P.zip vs) m p=_;unfold bindL;rw[Np λv hv=>(Qd3.mp nd).1 (List.of_mem_zip hv).1,Qa2 hk];simp
 |p::P,w::vs,i+1,m,nd,h1,h2,hk=>by
  show bindL kindOf ((p,w)::P.zip vs) m x=_;unfold bindL;exact N6 (i:=i) (Qd3.mp nd).2 (by simpa using h1) (by simpa using h2) hk
theorem Oc{kindOf:Str->Option NameKind}{x:Str}{v:Value}:∀{P:List Str} {vs:List Value} {i:Nat} {m:Str->Option Value},P.Nodup->P[i]? =some x->vs[i]? =some v->kindOf x≠some .local->
  bindC kindOf (P.zip vs) m x=some v
 |[],_,_,_,_,h,_,_=>by simp at h
 |_::_,[],_,_,_,_,h,_=>by simp at h
 |p::P,w::vs,0,m,nd,h1,h2,hk=>by
  simp at h1 h2;subst h1;subst h2;show bindC kindOf ((p,w)::P.zip vs) m p=_;unfold bindC;rw[Ob λv hv=>(Qd3.mp nd).1 (List.of_mem_zip hv).1,Qa1 hk];simp
 |p::P,w::vs,i+1,m,nd,h1,h2,hk=>by
  show bindC kindOf ((p,w)::P.zip vs) m x=_;unfold bindC;exact Oc (i:=i) (Qd3.mp nd).2 (by simpa using h1) (by simpa using h2) hk
def J3(N:List Str)(vs:List V):St:=vs.map some++replicate (N.length - vs.length) none
def Wt(CX:CXT)(P:Program)(w:World)(K:Frag)(mg:Str->Option Value)(base:Heap)(N:List Str)(qual:Str)(scope:Scope)(f:Addr)(cd:Value)(A:Around)(outer:List Env)(s:Shared)(H:Hp)(E:XK):Cx where
 prog:=P
 w:=w
 K:=K
 mg:=mg
 base:=base
 A:=A.deeper (envOfC qual scope s.heap.objs.size f cd)
 N:=N
 s₀:=s
 H₀:=H
 env:=envOfC qual scope s.heap.objs.size f cd
 outer:=outer
 stack:=envOfC qual scope s.heap.objs.size f cd::outer
 ex:=[]
 calm:=true
 fn:=λ_=>true
 pn:=[]
 xe:=λe s'=>wpAny (model P w) (A.deeper (envOfC qual scope s.heap.objs.size f cd)) (leaving (envOfC qual scope s.heap.objs.size f cd) e) (λ_ s''=>CX outer H s E e s'') (λe' s''=>CX outer H s E e' s'') s'
theorem Sw{sc:Scope}{n:Nat}{x:Str}(h:sc.names.lookup x=some .cell):∃c,(cellsFrom n sc.names []).lookup x=some c:=by
 have q:=PySem.W.cellsFrom_some sc.names n [] (.inl h);exact Qe6.mp q
theorem Xz{CX:CXT}{P:Program}{w:World}{K:Frag}{mg:Str->Option Value}{base:Heap}{N ps:List Str}{qual:Str}{scope:Scope}{f:Addr}{cd:Value}{A:Around}{outer:List Env}{s s1:Shared}{H:Hp}{E:XK}{us:List Value}{vs:List V}(S:Av N ps scope)(hd:A.handled=none)(e0:Env0 P w K mg base A outer s H)(hl:vs.length=ps.length)(r:Vals vs us)(x:InCallC s s.heap.objs.size (bindL (envOfC qual scope s.heap.objs.size f cd).kindOf (ps.zip us) λ_=>none) (cellsFrom (s.heap.objs.size+1) scope.names []) (bindC (envOfC qual scope s.heap.objs.size f cd).kindOf (ps.zip us) λ_=>none) s1):
  Inv (Wt CX P w K mg base N qual scope f cd A outer s H E) [] (J3 N vs) H s1:=by
 have hpl:ps.length<=N.length:=by have:=Qc7 length S.pre;rw[Qb0] at this;omega
 obtain⟨h1,tk,rfl,hk⟩:=x.done;have noA:∀b:Addr,b ∉ (Wt CX P w K mg base N qual scope f cd A outer s H E).ex:=λb z=>absurd (show b∈([]:List Addr) from z) (by simp);refine⟨⟨e0.mod,S.kind,rfl,rfl,le_refl _,λy z c h1 h2=> ?_,λy hy=> ?_,λy c _ h=> ?_,λ_=>hd,Around.frames_deeper e0.frames,.inr ⟨rfl,rfl⟩,λb z=>absurd z (noA b),e0.bs,e0.bsz,λb _ _=>noA b,λb z=>absurd z (noA b),e0.funs,e0.frf⟩,
  rfl,e0.bare,Un.kept hk,⟨_,x.toInCall.ns,λi y v h1 h2 h3=> ?_⟩,λy c h=>⟨_,x.cell y c h⟩,e0.hok.fresh (le_refl _),λy c h=> ?_,λp hp=>absurd (show p∈([]:List (Addr×Obj)) from hp) (by simp),e0.hok.kept hk,?_⟩
 ·exact name_of_addr x.apart (PySem.mem_of_lookup h1) (PySem.mem_of_lookup h2)
 ·have hy:scope.names.lookup y=some .cell\/scope.names.lookup y=some .free:=hy;rcases hy with hy|hy
  ·exact Sw hy
  ·exact absurd rfl (S.nofree _ (PySem.mem_of_lookup hy))
 ·exact le_of_lt (x.above y c (PySem.mem_of_lookup h))
 ·have hi:i<vs.length:=by
   unfold J3 at h2;by_cases hi:i<vs.length
   ·exact hi
   ·rw[getElem?_append_right (by simpa using hi)] at h2;rw[getElem?_replicate] at h2;split at h2<;> cases h2
  have ha:vs[i]? =some v:=by
   unfold J3 at h2;rw[getElem?_append_left (by simpa using hi),getElem?_map] at h2;cases e:vs[i]? with
   |none=>rw[e] at h2;cases h2
   |some a=>rw[e] at h2;cases h2;rfl
  obtain⟨u,hu,rv⟩:=r.get ha;have hp:ps[i]? =some y:=by
   rw[<-S.pre,List.getElem?_take_of_lt (by omega)];exact h1
  have ndP:ps.Nodup:=by rw[<-S.pre];exact S.nd.sublist (List.take_sublist _ _)
  refine⟨u,rv,?_⟩;rcases S.par y (mem_of_getElem? hp) with k|k
  ·exact .inl ⟨k,N6 ndP hp hu k⟩
  ·obtain⟨c,e⟩:=Sw (n:=s.heap.objs.size+1) k;refine .inr ⟨.inl k,c,e,?_⟩;have q:=x.cell y c e;rw[Oc ndP hp hu (by show scope.names.lookup y≠_;rw[k];decide)] at q;exact q
 ·exact e0.hok.fresh (le_of_lt (x.above y c (PySem.mem_of_lookup h)))
 ·unfold J3;show _=N.length;rw[Qa3,If,List.length_replicate];omega
theorem fn_of{CX:CXT}{P:Program}{w:World}{K:Frag}{mg:Str->Option Value}{base:Heap}{k:Nat}{f:Addr}{name qual:Str}{params:Arguments}{body:List Stmt}{scope:Scope}{dV kV doc pm cdv ct oc:Value}{an od:Option Addr}{osl:Array (Option Value)}{N ps:List Str}{sp:Sp}(lk:K.lookup f=some ⟨oc,od,.func (PySem.W.fnOf name qual params body scope dV kV doc pm an cdv ct),osl⟩)(hcd:PySem.W.codeIn K cdv qual=true)(S:Av N ps scope)(len:∀vs H Q E,sp vs H Q E->vs.length=ps.length)(hbody:∀(A:Around) (outer:List Env) (s:Shared) (H:Hp) (vs:List V) (Q:VK) (E:XK),Room k (A.deeper (envOfC qual scope s.heap.objs.size f cdv))->sp vs H Q E->
   ∃t,PSs (Wt CX P w K mg base N qual scope f cdv A outer s H E) body t/\t {nx:=λ_ H'=>Q .non H',rt:=Q} (J3 N vs) H):
  FnOk P w K mg base CX (k+1) f (PySem.W.fnOf name qual params body scope dV kV doc pm an cdv ct) ps sp:=by
 refine⟨len,λA outer s H args us vs Q E hr e0 hb r hsp=> ?_⟩;have hl:=len _ _ _ _ hsp;have KX:K.In s.heap:=e0.mod.kin.keeps λb o e=>(e0.bs b o e).1;have lim:s.heap.NoLimit:=e0.mod.nolimit.keeps λb o e=>(e0.bs b o e).1;have hkind:∀y∈ps.zip us,scope.names.lookup y.1=some .local\/(scope.names.lookup y.1=some .cell/\((cellsFrom (s.heap.objs.size+1) scope.names []).lookup y.1).isSome=true):=λ⟨n,v⟩ hy=>by
  rcases S.par n (List.of_mem_zip hy).1 with q|q
  ·exact .inl q
  ·exact .inr ⟨q,PySem.W.cellsFrom_some _ _ _ (.inl q)⟩
 refine codeAny_call_function hr.depth (KX _ _ lk) rfl S.co S.gen rfl (PySem.W.codeRec_of KX hcd) (hb _ _ _ _ ?_);refine wpAny_newFunctionEnv_cells S.kind hkind λenv he s1 x=> ?_;subst he;refine⟨lim.keeps x.toInCall.keep,codeAny_func ?_⟩;obtain⟨t,ht,hq⟩:=hbody A outer s H vs Q E (hr.deeper _) hsp;have I:Inv (Wt CX P w K mg base N qual scope f cdv A outer s H E) [] (J3 N vs) H s1:=Xz S hr.hd e0 hl r x;refine Qe3 (ht [] s1 (J3 N vs) H _ I hq) (λfl s' hs=> ?_) λe s' hs=>hs;have fin:∀{σ':St} {H':Hp} {v:V} {u:Value},Inv (Wt CX P w K mg base N qual scope f cdv A outer s H E) [] σ' H' s'->RelV v u->Q v H'->CE outer P w H s Q u s':=
  λ{σ' H' v u} J rv q=>⟨v,H',J.os,J.bare,J.base,J.hok,rv,q⟩
 cases fl with
 |ret u=>
  obtain⟨v,σ',H',J,rv,q⟩:=hs;exact fin J rv q
 |next=>
  obtain⟨σ',H',J,q⟩:=hs;exact fin (v:=V.non) (u:=Value.none) J rfl q
 |brk=>
  obtain⟨_,_,_,q⟩:=hs;exact False.elim q
 |cont=>
  obtain⟨_,_,_,q⟩:=hs;exact False.elim q
section
variable{X:Cx}{x:Str}{p pos:Pos}{e:Expr}{es:List Expr}{t:TA}{id T:String}{r:List V->Hp->VK->Prop}
def tCB(r:List V->Hp->VK->Prop)(t:TA):TE:=λσ H Q=>t σ H λvs H1=>r vs H1 Q
theorem A0(hc:Dv X (.builtin id) r)(hg:Gl X x)(hm:X.mg x=none)(hv:bootBuiltins x=some (.builtin id))(ha:PA X (e::es) t)(hn:x≠"__name__":=by decide)(hdb:(x==("__debug__":Str))=false:=by decide)(he:starEach (e::es) X.env=(false,eval e X.env)::starEach es X.env:=by rfl)(hpl:(backTo pos (starEach es X.env)).any (·.1)=false:=by rfl):PE X (.Call (.Name x p) (e::es) [] pos) (tCB r t):=by
 intro pins s σ H Q I h;refine Qf1 (Dz I hg hm hv ?_ hn hdb);exact PyProof.Rows.callWith_builtin1 (thn (ha pos pins s σ H _ I h) λus s1 ⟨vs,H1,I1,r1,q1⟩=>hc pins s1 σ H1 vs us Q I1 r1 q1) he hpl
theorem Bb(hc:Dv X (.type T) r)(hg:Gl X x)(hm:X.mg x=none)(hv:bootBuiltins x=some (.type T))(ha:PA X (e::es) t)(hn:x≠"__name__":=by decide)(hdb:(x==("__debug__":Str))=false:=by decide)(he:starEach (e::es) X.env=(false,eval e X.env)::starEach es X.env:=by rfl)(hpl:(backTo pos (starEach es X.env)).any (·.1)=false:=by rfl):PE X (.Call (.Name x p) (e::es) [] pos) (tCB r t):=by
 intro pins s σ H Q I h;refine Qf1 (Dz I hg hm hv ?_ hn hdb);exact PyProof.Rows.callWith_type1 (thn (ha pos pins s σ H _ I h) λus s1 ⟨vs,H1,I1,r1,q1⟩=>hc pins s1 σ H1 vs us Q I1 r1 q1) he hpl
end
end L2
namespace HT
open PySem PyProof.Rows
section
variable{prog:Program}{w:World}{A:Around}{E:Value->Shared->Prop}{s:Shared}
theorem cat_tup{t b:Addr}{vs ws:List Value}{Q:Value->Shared->Prop}(ht:IsTup s.heap t vs.toArray)(hb:IsTup s.heap b ws.toArray)(hv:vs≠[])(h1:ws=[]->Q (.ref t) s)(h2:ws≠[]->Q (.ref s.heap.objs.size) {s with heap:=s.heap.push {cls:= .type "tuple",data:= .seq (vs++ws).toArray}})(hsz:vs.length+ws.length<=sizeLine):wpAny (model prog w) A (binaryOp .Add (.ref t) (.ref b)) Q E s:=by
 obtain⟨⟨cls,dd,data,sl⟩,ho,hc,n,hd⟩:=id ht;obtain⟨⟨cls2,dd2,data2,sl2⟩,ho2,hc2,n2,hd2⟩:=id hb;simp only at hc hd hc2 hd2;subst hc hd hc2 hd2;have e:vs.toArray++ws.toArray=(vs++ws).toArray:=by simp
 by_cases hw:ws=[]
 ·exact concat_meets ⟨_,ho,rfl⟩ ⟨_,ho2,rfl⟩ noFill_tuple_add seq_tuple_add slot_tuple_add entry_tuple_add (args_tuple_add_2 _ _)
   (tuple_addW1 t b vs.toArray ws.toArray n n2 dd dd2 sl sl2 (by simpa using hv) (by simp[hw])) ⟨ho,ho2,h1 hw⟩
 ·refine concat_meets ⟨_,ho,rfl⟩ ⟨_,ho2,rfl⟩ noFill_tuple_add seq_tuple_add slot_tuple_add entry_tuple_add (args_tuple_add_2 _ _)
   (tuple_addW2 t b vs.toArray ws.toArray n n2 dd dd2 sl sl2 (by simpa using hv) (by simpa using hw) (by rw[size_toArray,size_toArray];exact hsz)) ⟨ho,ho2,?_⟩
  rw[e];exact h2 hw
def sIx(n d:Nat):Option Int->Nat
 |none=>d
 |some v=>if v<0 then (v+(n:Int)).toNat else min v.toNat n
theorem sIx_none(n d:Nat):sIx n d none=d:=rfl
theorem sIx_nat(n d k:Nat):sIx n d (some (k:Int))=min k n:=by
 show (if (k:Int)<0 then ((k:Int)+(n:Int)).toNat else min (k:Int).toNat n)=min k n;rw[Qa1 (by omega),Qd4]
theorem sIx_le(n d:Nat)(hd:d<=n)(o:Option Int):sIx n d o<=n:=by
 cases o with
 |none=>exact hd
 |some v=>
  show (if v<0 then (v+(n:Int)).toNat else min v.toNat n)<=n;by_cases hv:v<0
  ·rw[Qa2 hv];omega
  ·rw[Qa1 hv];exact Nat.min_le_right _ _
theorem V9(v:Int)(n d:Nat):(if v<0 then max (v+(n:Int)) 0 else min v (n:Int))=((sIx n d (some v):Nat):Int):=by
 show (if v<0 then max (v+(n:Int)) 0 else min v (n:Int))=(((if v<0 then (v+(n:Int)).toNat else min v.toNat n):Nat):Int);by_cases hv:v<0
 ·simp only[Qa2 hv];omega
 ·simp only[Qa1 hv];omega
theorem Ua(lo hi:Option Int)(n:Nat):Builtin.Slice.sliceAdjust lo hi 1 (n:Int)=(((sIx n 0 lo:Nat):Int),((sIx n n hi:Nat):Int)):=by
 have h1:¬((1:Int)<0):=by decide
 unfold Builtin.Slice.sliceAdjust;simp only[h1,if_false];refine Prod.ext ?_ ?_
 ·cases lo with
  |none=>rfl
  |some v=>exact V9 v n 0
 ·cases hi with
  |none=>rfl
  |some v=>exact V9 v n n
theorem U6(i j:Nat):Builtin.Slice.slicePlaces (i:Int) (j:Int) 1=j - i:=by
 unfold Builtin.Slice.slicePlaces;have h1:(1:Int) > 0:=by decide
 simp only[h1,Qe7,Int.ediv_one];split<;> omega
theorem Lg{v:Value}{o:Option Int}{Q:Option Int->Shared->Prop}(p:IsPart v o)(h:Q o s):wpAny (model prog w) A (Builtin.Slice.slicePartIndex v) Q E s:=by
 cases p with
 |none=>exact slicePart_none h
 |int i t=>exact slicePart_int h
theorem Fc{sl:Addr}{vl vu:Value}{lo hi:Option Int}{n:Nat}{Q:Int×Int×Nat->Shared->Prop}(hs:s.heap.IsSliceOf sl vl vu .none)(pl:IsPart vl lo)(pu:IsPart vu hi)(h:Q (((sIx n 0 lo:Nat):Int),1,sIx n n hi - sIx n 0 lo) s):wpAny (model prog w) A (Builtin.Slice.sliceApplied (.ref sl) (pure (n:Int))) Q E s:=by
 obtain⟨os,hos,hcs,hds⟩:=id hs;unfold Builtin.Slice.sliceApplied Builtin.Slice.sliceFields;refine Gt (Gt (Qb6 hos hds (x:=vl) rfl (Gt (Qb6 hos hds (x:=vu) rfl (Gt (Qb6 hos hds (x:= .none) rfl (Qa0 ?_)))))));refine Gt (slicePart_none ?_);show wpAny _ _ (if ((1:Int)==0)=true then _ else _) _ _ s;rw[Qa1 (by decide)];refine Gt (Lg pl (Gt (Lg pu (Gt (Qa0 ?_)))));show wpAny _ _ (match Builtin.Slice.sliceAdjust lo hi 1 (n:Int) with|(lo,hi)=>pure (lo,(1:Int),Builtin.Slice.slicePlaces lo hi 1)) _ _ s;rw[Ua lo hi n];show wpAny _ _ (pure (((sIx n 0 lo:Nat):Int),(1:Int),Builtin.Slice.slicePlaces ((sIx n 0 lo:Nat):Int) ((sIx n n hi:Nat):Int) 1)) _ _ s;rw[U6];exact Qa0 h
theorem Zv(xs:Array Value)(i k:Nat):((List.range k).filterMap λ(m:Nat)=>xs[((i:Int)+(m:Int) * 1).toNat]?).toArray=((xs.toList.drop i).take k).toArray:=by
 have e:(λ(m:Nat)=>xs[((i:Int)+(m:Int) * 1).toNat]?)=λm=>xs[i+m]? :=by
  funext m
  have:((i:Int)+(m:Int) * 1).toNat=i+m:=by omega
  rw[this]
 rw[e];have:=pick_run xs i k;rw[List.filterMap_map] at this;have e2:((λx=>xs[x]?)∘λx=>i+x)=λm=>xs[i+m]? :=rfl;rw[e2] at this;rw[this]
theorem getItem_tuple_cut{t sl:Addr}{items:Array Value}{vl vu:Value}{lo hi:Option Int}{Q:Value->Shared->Prop}(ht:IsTup s.heap t items)(hs:s.heap.IsSliceOf sl vl vu .none)(pl:IsPart vl lo)(pu:IsPart vu hi)(hw:¬(sIx items.size 0 lo=0/\sIx items.size items.size hi=items.size))(h:Q (.ref s.heap.objs.size) {s with heap:=s.heap.push {cls:= .type "tuple",data:= .seq ((items.toList.drop (sIx items.size 0 lo)).take (sIx items.size items.size hi - sIx items.size 0 lo)).toArray}})(hsz:items.size<=sizeLine):wpAny (model prog w) A (getItem (.ref t) (.ref sl)) Q E s:=by
 have htake:sizeOk (.seq ((items.toList.drop (sIx items.size 0 lo)).take (sIx items.size items.size hi - sIx items.size 0 lo)).toArray):=by
  show ((items.toList.drop (sIx items.size 0 lo)).take (sIx items.size items.size hi - sIx items.size 0 lo)).toArray.size<=sizeLine;rw[size_toArray,Qb0,length_drop,length_toList];omega
 have hj:sIx items.size items.size hi<=items.size:=sIx_le _ _ (le_refl _) hi;obtain⟨os,hos,hcs,hds⟩:=id hs;have hTs:s.TypeIs (.ref sl) "slice":=⟨os,hos,hcs⟩
 unfold getItem
 try with_reducible refine Qb9 ?_
 first|refine Gt (Qa0 ?_)|skip
 refine Gt (wpAny_sequenceKey ht.typeIs (by decide) ?_);refine Gt (Qc1 (name:=Str.ofString "__getitem__") ht.typeIs PyProof.Rows.slot_tuple_getitem
  (Qd0 PyProof.Rows.slot_tuple_getitem ht.typeIs entry_tuple_getitem ?_ (args_tuple_getitem _ _)))
 show wpAny _ _ (Builtin.Tuple.tupleItemsOf (.ref t) >>=_) _ _ s;refine Gt (tupleItemsOf_ ht ?_);refine Gt (Qc8 hTs ?_);rw[Qa2 (by decide)];refine Gt (Fc hs pl pu ?_);have hno:¬((((sIx items.size 0 lo:Nat):Int)==0 && (1:Int)==1 && (sIx items.size items.size hi - sIx items.size 0 lo)==items.size)=true):=by
  intro q;rw[Qf6,Qf6] at q;have q1:((sIx items.size 0 lo:Nat):Int)=0:=eq_of_beq q.1.1;have q2:sIx items.size items.size hi - sIx items.size 0 lo=items.size:=eq_of_beq q.2;exact hw ⟨by omega,by omega⟩
 show wpAny _ _ (if (((sIx items.size 0 lo:Nat):Int)==0 && (1:Int)==1 && (sIx items.size items.size hi - sIx items.size 0 lo)==items.size)=true then _ else _) _ _ s;rw[Qa1 hno,Zv]
 first
  |exact Gt (m:=Builtin.Tuple.tupleExact _) (Qc0 (Qa0 ⟨_,rfl,Qa0 h⟩) htake)
  |exact Gt (m:=Builtin.Tuple.tupleExact _) (Qc0 (Gt (Qa0 (Qa0 ⟨_,rfl,Qa0 h⟩))) htake)
  |exact Gt (Gt (m:=Builtin.Tuple.tupleExact _) (Qc0 (Qa0 (Qa0 ⟨_,rfl,Qa0 h⟩)) htake))
  |exact Gt (Gt (m:=Builtin.Tuple.tupleExact _) (Qc0 (Qa0 ⟨_,rfl,Qa0 h⟩) htake))
end
end HT
namespace L2
open PySem PySem.Spec PyProof.Rows
abbrev TO:=St->Hp->(Option Int->Hp->Prop)->Prop
def PO(X:Cx)(e:Option Expr)(t:TO):Prop:=
 ∀(pins:List (Addr×Obj)) (s:Shared) (σ:St) (H:Hp) (Q:Option Int->Hp->Prop),Inv X pins σ H s->t σ H Q->
  wpAny (model X.prog X.w) X.A (evalPart e X.env) (λu s'=>∃o H',Inv X pins σ H' s'/\IsPart u o/\Q o H') X.xe s
def Pb:TO:=λ_ H Q=>Q none H
def tPart(t:TE):TO:=λσ H Q=>t σ H λx H1=>∃i,x= .int i/\Q (some i) H1
theorem U0{ns:List Int}:∀{us:List Value},Vals (ns.map V.int) us->IntsAre us ns:=by
 induction ns with
 |nil=>intro us r;rw[map_nil] at r;cases r;exact .nil
 |cons n ns ih=>
  intro us r;rw[Qb1] at r;cases r with
  |cons r1 r2=>
   obtain⟨t,e⟩:=r1;subst e;exact .cons n t (ih r2)
section
variable{X:Cx}{e:Expr}{te:TE}{lo hi:Option Expr}{tl th:TO}{pos p2:Pos}
theorem Dw:PO X none Pb:=by
 intro pins s σ H Q I h;rw[evalPart_none];exact Qa0 ⟨none,H,I,.none,h⟩
theorem Bt(h:PE X e te):PO X (some e) (tPart te):=by
 intro pins s σ H Q I hw;rw[evalPart_some];refine thn (h pins s σ H _ I hw) λu s1 ⟨x,H1,I1,r1,q1⟩=> ?_;obtain⟨i,rfl,q⟩:=q1;obtain⟨t,rfl⟩:=r1;exact⟨some i,H1,I1,.int i t,q⟩
def SlR(X:Cx)(r:V->Option Int->Option Int->Hp->VK->Prop):Prop:=
 ∀(pins:List (Addr×Obj)) (s:Shared) (σ:St) (H:Hp) (x:V) (v vl vu:Value) (lo hi:Option Int) (sl:Addr) (Q:VK),Inv X pins σ H s->RelV x v->s.heap.IsSliceOf sl vl vu .none->IsPart vl lo->IsPart vu hi->r x lo hi H Q->
  ∃T id,typeLookup (.type T) "__getitem__"=pure (some (.builtin id))/\s.TypeIs v T/\wpAny (model X.prog X.w) X.A (getItem v (.ref sl)) (EP X pins σ Q) X.xe s
def tSl(r:V->Option Int->Option Int->Hp->VK->Prop)(te:TE)(tl th:TO):TE:=λσ H Q=>te σ H λx H1=>tl σ H1 λl H2=>th σ H2 λu H3=>r x l u H3 Q
theorem Ch{r:V->Option Int->Option Int->Hp->VK->Prop}(hr:SlR X r)(he:PE X e te)(hl:PO X lo tl)(hu:PO X hi th):PE X (.Subscript e (.Slice lo hi none p2) pos) (tSl r te tl th):=by
 intro pins s σ H Q I h;refine Subscript_ (thn (he pins s σ H _ I h) λv s1 ⟨x,H1,I1,r1,q1⟩=> ?_);refine wpAny_Slice (thn (hl pins s1 σ H1 _ I1 q1) λvl s2 ⟨l,H2,I2,pl,q2⟩=>thn (hu pins s2 σ H2 _ I2 q2) λvu s3 ⟨u,H3,I3,pu,q3⟩=> ?_);rw[evalPart_none];refine Qa0 ?_;have I4:Inv X pins σ H3 {s3 with heap:=s3.heap.push {cls:= .type "slice",data:= .fields #[vl,vu,.none]}}:=I3.kept (t':=s3.toks) λb ob q=>Lt _ q;obtain⟨T,id,hT,ht,hg⟩:=hr pins {s3 with heap:=s3.heap.push {cls:= .type "slice",data:= .fields #[vl,vu,.none]}} σ H3 x v vl vu l u s3.heap.objs.size Q I4 r1 (IsSliceOf.new ..) pl pu q3;show wpAny (model X.prog X.w) X.A (subscriptTail e (.Slice lo hi none p2) v (.ref s3.heap.objs.size)) (EP X pins σ Q) X.xe {s3 with heap:=s3.heap.push {cls:= .type "slice",data:= .fields #[vl,vu,.none]}};exact tail_any (ops:=[.ref s3.heap.objs.size,v]) ht hT hg (by with_unfolding_all rfl)
def Ee(xs:List V)(lo hi:Option Int):List V:=(xs.drop (HT.sIx xs.length 0 lo)).take (HT.sIx xs.length xs.length hi - HT.sIx xs.length 0 lo)
theorem J4(xs:List V)(lo hi:Option Int):(Ee xs lo hi).length<=xs.length:=by
 unfold Ee;rw[Qb0,length_drop];omega
inductive RSlTP(K:Frag)(x:V)(lo:Option Int)(hi:Option Int)(H:Hp)(Q:VK):Prop
 |mk (a xs:_):(x= .ref a)->(SqT K H a xs)->(¬(HT.sIx xs.length 0 lo=0/\HT.sIx xs.length xs.length hi=xs.length))->(∀p,H p=none->Q (.ref p) (upd H p (.tup (Ee xs lo hi))))->RSlTP K x lo hi H Q
def rSlT(K:Frag):V->Option Int->Option Int->Hp->VK->Prop:=λx lo hi H Q=>RSlTP K x lo hi H Q
theorem Y0:SlR X (rSlT X.K):=by
 intro pins s σ H x v vl vu lo hi sl Q I rx hs pl pu h;obtain⟨a,xs,rfl,hx,hw,q⟩:=h;cases rx;obtain⟨its,r,ht,hz⟩:=I.tuple hx;have hlen:its.toArray.size=xs.length:=by rw[size_toArray];exact r.length.symm
 refine⟨"tuple",_,PyProof.Rows.slot_tuple_getitem.lookup,ht.typeIs,?_⟩;refine HT.getItem_tuple_cut ht hs pl pu (by rw[hlen];exact hw) ?_ (by rw[hlen];exact hz);rw[hlen];refine⟨.ref s.heap.objs.size,_,I.laid (t':=s.toks) (o:= .tup (Ee xs lo hi)) (λb ob q=>Lt _ q) (le_refl _) ?_,rfl,q _ (I.hok.fresh (le_refl _))⟩;exact⟨le_trans (J4 xs lo hi) hz,_,(r.drop (HT.sIx xs.length 0 lo)).take (HT.sIx xs.length xs.length hi - HT.sIx xs.length 0 lo),IsTupN.new _ _⟩
theorem Vals.nil_iff{xs:List V}{us:List Value}(r:Vals xs us):us=[]↔xs=[]:=by
 cases r with
 |nil=>simp
 |cons _ _=>simp
end
def ixN(n:Nat)(i:Int):Option Nat:=if 0<=i then (if i<n then some i.toNat else none) else if -(n:Int)<=i then some (i+n).toNat else none
def atI{α:Type}(xs:List α)(i:Int):Option α:=(ixN xs.length i).bind λj=>xs[j]?
theorem Wd{n:Nat}{i:Int}{j:Nat}(h:ixN n i=some j):seqIndex? i n=some j/\j<n/\ -(n:Int)<=i/\i<n:=by
 unfold ixN at h;by_cases h0:0<=i
 ·rw[Qa2 h0] at h;by_cases h1:i<n
  ·rw[Qa2 h1] at h;have e:i.toNat=j:=Option.some.inj h;exact⟨by rw[seqIndex_of h0 h1,e],by omega,by omega,h1⟩
  ·rw[Qa1 h1] at h;cases h
 ·rw[Qa1 h0] at h;by_cases h1: -(n:Int)<=i
  ·rw[Qa2 h1] at h;have e:(i+n).toNat=j:=Option.some.inj h;exact⟨by rw[seqIndex_neg (by omega) h1,e],by omega,h1,by omega⟩
  ·rw[Qa1 h1] at h;cases h
theorem Ot{α:Type}{xs:List α}{i:Int}{v:α}(h:atI xs i=some v):∃j,seqIndex? i xs.length=some j/\xs[j]? =some v/\j<xs.length/\ -(xs.length:Int)<=i/\i<xs.length:=by
 unfold atI at h;cases e:ixN xs.length i with
 |none=>rw[e] at h;cases h
 |some j=>
  rw[e] at h;obtain⟨h1,h2,h3,h4⟩:=Wd e;exact⟨j,h1,h,h2,h3,h4⟩
theorem Am{α:Type}{xs:List α}{j:Nat}{v:α}(h:xs[j]? =some v):atI xs (j:Int)=some v:=by
 have hj:j<xs.length:=(List.getElem?_eq_some_iff.mp h).1;have e:ixN xs.length (j:Int)=some j:=by
  unfold ixN;rw[Qa2 (by exact Int.natCast_nonneg _),Qa2 (by omega)];simp
 unfold atI;rw[e];exact h
theorem M3{α:Type}(xs:List α)(v:α):atI (xs++[v]) (-1)=some v:=by
 have hl:(xs++[v]).length=xs.length+1:=by simp
 have e:ixN (xs++[v]).length (-1)=some xs.length:=by
  unfold ixN;rw[hl,Qa1 (by decide),Qa2 (by omega)]
  congr 1
  omega
 unfold atI;rw[e];show (xs++[v])[xs.length]? =some v;simp
def PlainIx(b:Expr):Prop:=∀o i,subscripted b false o i=operate [o,i] (getItem o i)
def IxR(X:Cx)(r:R2):Prop:=
 ∀(value slice:Expr) (pins:List (Addr×Obj)) (s:Shared) (σ:St) (H:Hp) (x y:V) (v u:Value) (Q:VK),Inv X pins σ H s->RelV x v->RelV y u->r x y H Q->
  subscripted slice false v u=operate [v,u] (getItem v u)->wpAny (model X.prog X.w) X.A (subscriptTail value slice v u) (EP X pins σ Q) X.xe s
def MtR(X:Cx)(id:String)(r:V->List V->Hp->VK->Prop):Prop:=
 ∀(pins:List (Addr×Obj)) (s:Shared) (σ:St) (H:Hp) (x:V) (xs:List V) (v:Value) (us:List Value) (Q:VK),Inv X pins σ H s->RelV x v->Vals xs us->r x xs H Q->
  wpAny (model X.prog X.w) X.A (call (.builtin id) (v::us)) (EP X pins σ Q) X.xe s
section
variable{X:Cx}{a b:Expr}{ta tb:TE}{pos:Pos}
theorem Ao{r:R2}(hr:IxR X r)(ha:PE X a ta)(hb:PE X b tb)(hs:PlainIx b):PE X (.Subscript a b pos) (tOp r ta tb):=by
 intro pins s σ H Q I h;exact Subscript_ (binT ha hb I h λv u s2 x y H2 I2 rx ry q=>hr a b pins s2 σ H2 x y v u Q I2 rx ry q (hs _ _))
inductive RIxLP(K:Frag)(x:V)(y:V)(H:Hp)(Q:VK):Prop
 |mk (p xs i v:_):(x= .ref p)->(y= .int i)->(SqL K H p xs)->(atI xs i=some v)->(Q v H)->RIxLP K x y H Q
def rIxL(K:Frag):R2:=λx y H Q=>RIxLP K x y H Q
inductive RIxTP(K:Frag)(x:V)(y:V)(H:Hp)(Q:VK):Prop
 |mk (p xs i v:_):(x= .ref p)->(y= .int i)->(SqT K H p xs)->(atI xs i=some v)->(Q v H)->RIxTP K x y H Q
def Hr(K:Frag):R2:=λx y H Q=>RIxTP K x y H Q
inductive RIxSP(x:V)(y:V)(H:Hp)(Q:VK):Prop
 |mk (z i c:_):(x= .str z)->(y= .int i)->(z.length<=sizeLine)->(atI z.cps.toList i=some c)->(Q (.str ⟨#[c]⟩) H)->RIxSP x y H Q
def rIxS:R2:=λx y H Q=>RIxSP x y H Q
theorem Bc:IxR X (rIxL X.K):=by
 intro value slice pins s σ H x y v u Q I rx ry h hs;obtain⟨p,xs,i,z,rfl,rfl,hq,he,q⟩:=h;cases rx;obtain⟨t,rfl⟩:=ry;obtain⟨its,r,pl,hz⟩:=I.list hq;obtain⟨j,h1,h2,h3,h4,h5⟩:=Ot he;obtain⟨w,ew,rw'⟩:=r.get h2;have hl:=r.length;have hn:=Jl;have fin:EP X pins σ Q w s:=⟨z,H,I,rw',q⟩
 by_cases h0:0<=i
 ·have hj:i.toNat=j:=by
   rw[seqIndex_of h0 h5] at h1;exact Option.some.inj h1
  exact item_listR pl.isList h0 (by omega) (by rw[hj];simpa using ew) fin hs
 ·have hj:(i+(its.toArray.size:Int)).toNat=j:=by
   rw[seqIndex_neg (by omega) h4] at h1;rw[size_toArray,<-hl];exact Option.some.inj h1
  exact subscriptTail_builtinR (x:=w) pl.isList.typeIs slot_list_getitem.lookup
   (wpAny_getItem_list_neg (Q:=λr s'=>r=w/\EP X pins σ Q r s') pl.isList (by omega) (by rw[size_toArray]<;> omega) (by omega) (by rw[hj];simpa using ew) ⟨rfl,fin⟩) hs
theorem At:IxR X (Hr X.K):=by
 intro value slice pins s σ H x y v u Q I rx ry h hs;obtain⟨p,xs,i,z,rfl,rfl,hq,he,q⟩:=h;cases rx;obtain⟨t,rfl⟩:=ry;obtain⟨its,r,pl,hz⟩:=I.tuple hq;obtain⟨j,h1,h2,h3,h4,h5⟩:=Ot he;obtain⟨w,ew,rw'⟩:=r.get h2;have hl:=r.length;have hn:=Jl;have fin:EP X pins σ Q w s:=⟨z,H,I,rw',q⟩
 exact subscriptTail_builtinR (x:=w) pl.typeIs slot_tuple_getitem.lookup
  (getItem_tuple (j:=j) (Q:=λr s'=>r=w/\EP X pins σ Q r s') pl (by omega) (by omega) (by rw[size_toArray,<-hl];exact h1) (by simpa using ew) ⟨rfl,fin⟩) hs
theorem Jt:IxR X rIxS:=by
 intro value slice pins s σ H x y v u Q I rx ry h hs;obtain⟨z,i,c,rfl,rfl,hz,he,q⟩:=h;obtain⟨t,rfl⟩:=rx;obtain⟨t',rfl⟩:=ry;obtain⟨j,h1,h2,h3,h4,h5⟩:=Ot he;have hl:z.cps.toList.length=z.length:=by simp[Str.length]
 rw[hl] at h1 h4 h5;have hn:=Jl;exact tail_any (typeIs_str s z t) slot_str_getitem.lookup (getItem_str (c:=c) (by
  have e1:decide (i< -(2 ^ 63:Int))=false:=decide_eq_false (by omega);have e2:decide (i ≥ 2 ^ 63)=false:=decide_eq_false (by omega);rw[e1,e2,Bool.or_false]) (by rw[h1];simpa using h2) ⟨.str ⟨#[c]⟩,H,I.tok _,⟨_,rfl⟩,q⟩) hs
theorem Ul(its:List Value)(n j:Nat)(u:Value):Obj.mapSeq (·.setIfInBounds j u) {cls:= .type "list",data:= .seq its.toArray n}={cls:= .type "list",data:= .seq (its.set j u).toArray n}:=by
 simp[Obj.mapSeq]
theorem Inv.lst{pins:List (Addr×Obj)}{σ:St}{H:Hp}{s:Shared}{p:Addr}{xs:List V}(I:Inv X pins σ H s)(h:H p=some (.lst xs)):
  ∃(its:List Value) (n:Nat),Vals xs its/\s.heap.get? p=some {cls:= .type "list",data:= .seq its.toArray n}/\xs.length<=sizeLine:=by
 obtain⟨z,its,n,r,e⟩:=I.hok p _ h;exact⟨its,n,r,e,z⟩
theorem Inv.lstUpd{pins:List (Addr×Obj)}{σ:St}{H:Hp}{s:Shared}{p:Addr}{xs ys:List V}{its its':List Value}{n n':Nat}{f:Obj->Obj}(I:Inv X pins σ H s)(h:H p=some (.lst xs))(ho:s.heap.get? p=some {cls:= .type "list",data:= .seq its.toArray n})(hf:f {cls:= .type "list",data:= .seq its.toArray n}={cls:= .type "list",data:= .seq its'.toArray n'})(r:Vals ys its')(hz:ys.length<=sizeLine)(t:Nat):
  Inv X pins σ (upd H p (.lst ys)) {s with heap:=s.heap.update p f,toks:=t}:=by
 have e:(s.heap.update p f).get? p=some {cls:= .type "list",data:= .seq its'.toArray n'}:=by
  rw[Heap.get?_update_self f ho (by rw[hf]<;> rfl),hf]
 refine I.write (x:=p) (e:=p) (by rw[h];trivial) (.inl rfl) (λb u hb q=>(Heap.get?_update_other _ _ (Ne.symm hb)).trans q) ⟨_,e⟩ ?_;exact⟨hz,its',n',r,e⟩
inductive RSetLP(o:V)(i:V)(v:V)(H:Hp)(Q:(Hp->Prop)):Prop
 |mk (p xs k j:_):(o= .ref p)->(i= .int k)->(H p=some (.lst xs))->(ixN xs.length k=some j)->(Q (upd H p (.lst (xs.set j v))))->RSetLP o i v H Q
def rSetL:V->V->V->Hp->(Hp->Prop)->Prop:=λo i v H Q=>RSetLP o i v H Q
theorem Fw:PSet X rSetL:=by
 intro pins s σ H o i v ov iv u Q I ro ri rv h;obtain⟨p,xs,k,j,rfl,rfl,hp,hj,q⟩:=h;cases ro;obtain⟨t,rfl⟩:=ri;obtain⟨its,n,r,ho,hz⟩:=I.lst hp;obtain⟨h1,h2,h3,h4⟩:=Wd hj;have hl:=r.length;have hn:=Jl;have I':Inv X pins σ (upd H p (.lst (xs.set j v))) {s with heap:=s.heap.update p (Obj.mapSeq (·.setIfInBounds j u))}:=
  I.lstUpd hp ho (Ul its n j u) (r.set rv j) (by rw[length_set];exact hz) s.toks
 by_cases h0:0<=k
 ·have hk:k.toNat=j:=by
   rw[seqIndex_of h0 h4] at h1;exact Option.some.inj h1
  exact PySem.W.ki_setAt ho h0 (by omega) (by rw[size_toArray,<-hl];exact h4) (by rw[hk];exact⟨_,I',q⟩)
 ·have hk:(k+(its.toArray.size:Int)).toNat=j:=by
   rw[seqIndex_neg (by omega) h3] at h1;rw[size_toArray,<-hl];exact Option.some.inj h1
  exact PySem.W.ki_setBack ho (by omega) (by rw[size_toArray,<-hl];exact h3) (by omega) (by rw[hk];exact⟨_,I',q⟩)
theorem Pw(lo hi:Option Int)(n:Nat):(sliceBounds lo hi none n).1=((HT.sIx n 0 lo:Nat):Int)/\(sliceBounds lo hi none n).2.1=((HT.sIx n n hi:Nat):Int)/\(sliceBounds lo hi none n).2.2=1:=by
 refine⟨?_,?_,rfl⟩
 ·cases lo with
  |none=>simp[sliceBounds,HT.sIx]
  |some i=>
   simp only[sliceBounds,HT.sIx,getD_none,show (1:Int) > 0 by decide,Qe7];by_cases h:i<0
   ·simp only[h,Qe7]<;> omega
   ·simp only[h,if_false]<;> omega
 ·cases hi with
  |none=>simp[sliceBounds,HT.sIx]
  |some i=>
   simp only[sliceBounds,HT.sIx,getD_none,show (1:Int) > 0 by decide,Qe7];by_cases h:i<0
   ·simp only[h,Qe7]<;> omega
   ·simp only[h,if_false]<;> omega
theorem Nj(its:List Value)(lo hi:Option Int):slicePick its.toArray lo hi none=((its.drop (HT.sIx its.length 0 lo)).take (HT.sIx its.length its.length hi - HT.sIx its.length 0 lo)).toArray:=by
 obtain⟨h1,h2,h3⟩:=Pw lo hi its.toArray.size;unfold slicePick;rw[h1,h2,h3];simp only[sliceRange_one,pick_run,size_toArray]<;> rfl
inductive RSlLP(K:Frag)(x:V)(lo:Option Int)(hi:Option Int)(H:Hp)(Q:VK):Prop
 |mk (a xs:_):(x= .ref a)->(SqL K H a xs)->(∀p,H p=none->Q (.ref p) (upd H p (.lst (Ee xs lo hi))))->RSlLP K x lo hi H Q
def rSlL(K:Frag):V->Option Int->Option Int->Hp->VK->Prop:=λx lo hi H Q=>RSlLP K x lo hi H Q
theorem Vu:SlR X (rSlL X.K):=by
 intro pins s σ H x v vl vu lo hi sl Q I rx hs pl pu h;obtain⟨a,xs,rfl,hx,q⟩:=h;cases rx;obtain⟨its,r,ht,hz⟩:=I.list hx;have hlen:=r.length;refine⟨"list",_,slot_list_getitem.lookup,ht.isList.typeIs,?_⟩;refine wpAny_getItem_list_slice ht.isList hs pl pu .none (by simp) ?_ (by rw[size_toArray]<;> omega);rw[Nj,<-hlen];refine⟨.ref s.heap.objs.size,_,I.laid (t':=s.toks) (o:= .lst (Ee xs lo hi)) (λb ob q=>Lt _ q) (le_refl _) ?_,rfl,q _ (I.hok.fresh (le_refl _))⟩;exact⟨le_trans (J4 xs lo hi) hz,_,0,(r.drop (HT.sIx xs.length 0 lo)).take (HT.sIx xs.length xs.length hi - HT.sIx xs.length 0 lo),Qa5 _ rfl⟩
def Ic:V->Bool
 | .non=>true
 | .bl _=>true
 | .int _=>true
 | .str _=>true
 |_=>false
def eqV:V->V->Bool
 | .non,.non=>true
 | .bl a,.bl b=>a==b
 | .bl a,.int b=>(if a then 1 else 0)==b
 | .int a,.bl b=>a==(if b then 1 else 0)
 | .int a,.int b=>a==b
 | .str a,.str b=>a==b
 |_,_=>false
theorem eqAt_V{A:Around}{s:Shared}{y x:V}{u v:Value}(ry:RelV y u)(rx:RelV x v)(fy:Ic y=true)(fx:Ic x=true):SeqAt.EqAt A s u v (eqV y x):=by
 cases y with
 |non=>
  cases ry;cases x with
  |non=>cases rx;exact SeqAt.EqAt.same _
  |bl b=>cases rx;exact SeqAt.EqAt.none_bool b
  |int b=>obtain⟨t,rfl⟩:=rx;exact SeqAt.EqAt.none_int b t
  |str b=>obtain⟨t,rfl⟩:=rx;exact SeqAt.EqAt.none_str b t
  |_=>exact absurd (show false=true from fx) Bool.false_ne_true
 |bl a=>
  cases ry;cases x with
  |non=>cases rx;exact SeqAt.EqAt.bool_none a
  |bl b=>cases rx;exact SeqAt.EqAt.bool_bool a b
  |int b=>obtain⟨t,rfl⟩:=rx;exact SeqAt.EqAt.bool_int a b t
  |str b=>obtain⟨t,rfl⟩:=rx;exact SeqAt.EqAt.bool_str a b t
  |_=>exact absurd (show false=true from fx) Bool.false_ne_true
 |int a=>
  obtain⟨t',rfl⟩:=ry;cases x with
  |non=>cases rx;exact SeqAt.EqAt.int_none a t'
  |bl b=>cases rx;exact SeqAt.EqAt.int_bool a t' b
  |int b=>obtain⟨t,rfl⟩:=rx;exact SeqAt.EqAt.int_int a t' b t
  |str b=>obtain⟨t,rfl⟩:=rx;exact SeqAt.EqAt.int_str a t' b t
  |_=>exact absurd (show false=true from fx) Bool.false_ne_true
 |str a=>
  obtain⟨t',rfl⟩:=ry;cases x with
  |non=>cases rx;exact SeqAt.EqAt.str_none a t'
  |bl b=>cases rx;exact SeqAt.EqAt.str_bool a t' b
  |int b=>obtain⟨t,rfl⟩:=rx;exact SeqAt.EqAt.str_int a t' b t
  |str b=>obtain⟨t,rfl⟩:=rx;exact SeqAt.EqAt.str_str a t' b t
  |_=>exact absurd (show false=true from fx) Bool.false_ne_true
 |_=>exact absurd (show false=true from fy) Bool.false_ne_true
def eqU(x:V)(u:Value):Bool:=match u with
 | .none=>eqV .non x
 | .bool b=>eqV (.bl b) x
 | .int i _=>eqV (.int i) x
 | .str z _=>eqV (.str z) x
 |_=>false
theorem Zm{x y:V}{u:Value}(r:RelV y u)(f:Ic y=true):eqU x u=eqV y x:=by
 cases y with
 |non=>cases r;rfl
 |bl b=>cases r;rfl
 |int i=>obtain⟨t,rfl⟩:=r;rfl
 |str z=>obtain⟨t,rfl⟩:=r;rfl
 |_=>exact absurd (show false=true from f) Bool.false_ne_true
theorem Oz{x:V}:∀{xs:List V} {us:List Value},Vals xs us->xs.all Ic=true->us.any (eqU x)=xs.any λy=>eqV y x
 |_,_,.nil,_=>rfl
 |y::xs,u::us,.cons r t,f=>by
  rw[all_cons,Qf6] at f;rw[any_cons,any_cons,Zm r f.1,Oz t f.2]
theorem M9{A:Around}{s:Shared}{x:V}{v:Value}(rx:RelV x v)(fx:Ic x=true):∀{xs:List V} {us:List Value},Vals xs us->xs.all Ic=true->∀u∈us,SeqAt.EqAt A s u v (eqU x u)
 |_,_,.nil,_=>λu hu=>by cases hu
 |y::xs,u::us,.cons r t,f=>λu' hu=>by
  rw[all_cons,Qf6] at f;rcases Qa6.mp hu with rfl|hu
  ·rw[Zm r f.1];exact eqAt_V r rx f.1 fx
  ·exact M9 rx fx t f.2 u' hu
def inV(x:V)(xs:List V):Bool:=xs.any λy=>eqV y x
inductive RInP(K:Frag)(neg:Bool)(x:V)(y:V)(H:Hp)(Q:VK):Prop
 |mk (p xs:_):(y= .ref p)->((SqL K H p xs\/SqT K H p xs))->(Ic x=true)->(xs.all Ic=true)->(Q (.bl (if neg then !inV x xs else inV x xs)) H)->RInP K neg x y H Q
def rIn(K:Frag)(neg:Bool):R2:=λx y H Q=>RInP K neg x y H Q
theorem X3:OpR X (compareOp .In) (rIn X.K false):=by
 intro pins s σ H x y v u Q I rx ry h;obtain⟨p,xs,rfl,hq,fx,fs,q⟩:=h;cases ry;rcases hq with hq|hq
 ·obtain⟨its,r,pl,hz⟩:=I.list hq;refine SeqAt.in_listAt (eqU x) pl.isList (λw hw=>M9 rx fx r fs w (by simpa using hw)) ⟨.bl _,H,I,rfl,?_⟩;rw[show its.toArray.any (eqU x)=its.any (eqU x) by simp,Oz r fs];exact q
 ·obtain⟨its,r,pl,hz⟩:=I.tuple hq;refine SeqAt.in_tupleAt (eqU x) pl (λw hw=>M9 rx fx r fs w (by simpa using hw)) ⟨.bl _,H,I,rfl,?_⟩;rw[show its.toArray.any (eqU x)=its.any (eqU x) by simp,Oz r fs];exact q
theorem Ay:Dv X (.builtin "len") (λxs H Q=>∃p ys,xs=[.ref p]/\(SqL X.K H p ys\/SqT X.K H p ys)/\Q (.int ys.length) H):=by
 intro pins s σ H xs us Q I r h;obtain⟨p,ys,rfl,hq,q⟩:=h;obtain⟨u,rfl,rx⟩:=Dg r;cases rx;have hn:=Jl;rcases hq with hq|hq
 ·obtain⟨its,r',pl,hz⟩:=I.list hq;have hlen:=r'.length;exact Calls.call_len_list pl.isList (by simp only[size_toArray]<;> omega) ⟨.int ys.length,H,I.tok _,⟨s.toks+1,by rw[size_toArray,hlen]⟩,q⟩
 ·obtain⟨its,r',pl,hz⟩:=I.tuple hq;have hlen:=r'.length;exact len_tuple pl (by simp only[size_toArray]<;> omega) ⟨.int ys.length,H,I.tok _,⟨s.toks+1,by rw[size_toArray,hlen]⟩,q⟩
theorem Py:Dv X (.type "list") (λxs H Q=>∃p ys,xs=[.ref p]/\(SqL X.K H p ys\/SqT X.K H p ys)/\∀l,H l=none->Q (.ref l) (upd H l (.lst ys))):=by
 intro pins s σ H xs us Q I r h;obtain⟨p,ys,rfl,hq,q⟩:=h;obtain⟨u,rfl,rx⟩:=Dg r;cases rx;have fin:∀(its:List Value),Vals ys its->ys.length<=sizeLine->∀(h':Heap) (c':Nat),(∀b o',s.heap.get? b=some o'->h'.get? b=some o')->
   h'.get? s.heap.objs.size=some {cls:= .type "list",dict:=none,data:= .seq its.toArray c',slots:= #[]}->EP X pins σ Q (.ref s.heap.objs.size) {s with heap:=h'}:=λits r' hz h' c' kp e=>
  ⟨.ref s.heap.objs.size,_,I.laid (t':=s.toks) kp (le_refl _) (show ObjOk X.prog X.w _ h' _ (.lst ys) from⟨hz,its,c',r',e⟩),rfl,q _ (I.hok.fresh (le_refl _))⟩
 rcases hq with hq|hq
 ·obtain⟨its,r',pl,hz⟩:=I.list hq;have hlen:=r'.length;obtain⟨o,ho,hc,n,hd⟩:=pl.isList;exact call_list_seq p (.inl rfl) ho hc hd (λh' c' kp e=>fin its r' hz h' c' kp e) (by simp only[size_toArray]<;> omega)
 ·obtain⟨its,r',pl,hz⟩:=I.tuple hq;have hlen:=r'.length;obtain⟨o,ho,hc,n,hd⟩:=pl;exact call_list_seq p (.inr rfl) ho hc hd (λh' c' kp e=>fin its r' hz h' c' kp e) (by simp only[size_toArray]<;> omega)
theorem Ba:Dv X (.type "tuple") (λxs H Q=>∃p ys,xs=[.ref p]/\((SqL X.K H p ys/\∀l,H l=none->Q (.ref l) (upd H l (.tup ys)))\/(SqT X.K H p ys/\Q (.ref p) H))):=by
 intro pins s σ H xs us Q I r h;obtain⟨p,ys,rfl,h⟩:=h;obtain⟨u,rfl,rx⟩:=Dg r;cases rx;rcases h with⟨hq,q⟩|⟨hq,q⟩
 ·obtain⟨its,r',pl,hz⟩:=I.list hq;have hlen:=r'.length;refine call_tuple_list pl.isList (λh' kp=> ?_) (by simp only[size_toArray]<;> omega);have I1:Inv X pins σ H {s with heap:=h'}:=I.kept (t':=s.toks) kp;have I2:Inv X pins σ (upd H h'.objs.size (.tup ys)) {s with heap:=h'.push {cls:= .type "tuple",data:= .seq its.toArray}}:=
   I1.laid (t':=s.toks) (λb o e=>Lt _ e) (le_refl _) (show ObjOk X.prog X.w _ _ _ (.tup ys) from⟨hz,its,r',IsTupN.new _ _⟩)
  exact⟨.ref h'.objs.size,_,I2,rfl,q _ (I1.hok.fresh (le_refl _))⟩
 ·obtain⟨its,r',pl,hz⟩:=I.tuple hq;exact call_tuple_same pl ⟨.ref p,H,I,rfl,q⟩
def tyV(K:Frag)(T:String)(x:V)(H:Hp):Prop:=match x with
 | .str _=>T="str"
 | .int _=>T="int"
 | .ref p=>(T="list"/\∃xs,SqL K H p xs)\/(T="tuple"/\((∃o,K.lookup p=some o/\o.cls= .type "tuple"/\o.dict=none)\/∃xs,H p=some (.tup xs)))\/
   (T="dict"/\((∃kvs,H p=some (.dK kvs))\/∃kvs,H p=some (.dT kvs)))\/(T="set"/\∃S n,H p=some (.set S n))
 |_=>False
theorem tyV_is{pins:List (Addr×Obj)}{σ:St}{H:Hp}{s:Shared}{T:String}{x:V}{v:Value}(I:Inv X pins σ H s)(r:RelV x v)(ty:tyV X.K T x H):
  s.TypeIs v T/\∀a,v= .ref a->∃ob,s.heap.get? a=some ob/\ob.dict=none:=by
 cases x with
 |str z=>
  obtain⟨t,rfl⟩:=r;cases (show T="str" from ty);exact⟨typeIs_str s z t,λ_ e=>nomatch e⟩
 |int i=>
  obtain⟨t,rfl⟩:=r;cases (show T="int" from ty);exact⟨typeIs_int s i t,λ_ e=>nomatch e⟩
 |ref p=>
  cases r;rcases ty with⟨rfl,xs,hq⟩|⟨rfl,⟨o,hk,hc,hd⟩|⟨xs,hx⟩⟩|⟨rfl,hk⟩|⟨rfl,S,n,hk⟩
  ·obtain⟨its,_,pl,_⟩:=I.list hq;refine⟨pl.isList.typeIs,λa e=> ?_⟩;cases e;obtain⟨o,n,e,c,hd,_⟩:=pl;exact⟨o,e,hd⟩
  ·refine⟨⟨o,I.kIn p o hk,hc⟩,λa e=> ?_⟩;cases e;exact⟨o,I.kIn _ o hk,hd⟩
  ·obtain⟨_,_,_,o,e,c,d,_⟩:=(show ObjOk X.prog X.w H s.heap p (.tup xs) from I.hok p _ hx)
   refine⟨⟨o,e,c⟩,λa e2=> ?_⟩;cases e2;exact⟨o,e,d⟩
  ·have z:∃o,s.heap.get? p=some o/\o.ExactDict:=by
    rcases hk with⟨kvs,hk⟩|⟨kvs,hk⟩
    ·obtain⟨_,_,_,_,o,_,_,e,ex,_⟩:=I.hok p _ hk;exact⟨o,e,ex⟩
    ·obtain⟨_,_,_,_,o,_,_,e,ex,_⟩:=I.hok p _ hk;exact⟨o,e,ex⟩
   obtain⟨o,e,ex⟩:=z;refine⟨⟨o,e,ex.1⟩,λa e2=> ?_⟩;cases e2;exact⟨o,e,ex.2.1⟩
  ·obtain⟨o,_,_,_,e,ex,_⟩:=I.hok p _ hk;refine⟨⟨o,e,ex.1⟩,λa e2=> ?_⟩;cases e2;exact⟨o,e,ex.2.1⟩
 |_=>exact False.elim ty
def tBM0(K:Frag)(T:String)(r:V->List V->Hp->VK->Prop)(to:TE):TE:=λσ H Q=>to σ H λx H1=>tyV K T x H1/\r x [] H1 Q
def tBM(K:Frag)(T:String)(r:V->List V->Hp->VK->Prop)(to:TE)(t:TA):TE:=λσ H Q=>to σ H λx H1=>tyV K T x H1/\t σ H1 λxs H2=>r x xs H2 Q
variable{o e:Expr}{es:List Expr}{to:TE}{t:TA}{name:Str}{apos cpos:Pos}{T id:String}{r:V->List V->Hp->VK->Prop}
theorem pe_bm0(pa:PlainAttrs T)(slot:Slot T name id)(hty:typeOf (.builtin id)=pure (.type "method_descriptor"))(hm:MtR X id r)(ho:PE X o to)(hbase:attributeBase o name X.env (eval o X.env)=eval o X.env:=by rfl)(hline:(apos.endLine==cpos.line)=true:=by rfl):PE X (.Call (.Attribute o name apos) [] [] cpos) (tBM0 X.K T r to):=by
 intro pins s σ H Q I h;refine wpAny_Call_method0_late hbase hline (thn (ho pins s σ H _ I h) λv s1 ⟨x,H1,I1,r1,ty,q1⟩=> ?_);obtain⟨h1,h2⟩:=tyV_is I1 r1 ty;exact⟨T,id,pa,slot,hty,h1,h2,Calls.callWith_builtin rfl (PySem.evalArgs_none (hm pins s1 σ H1 x [] v [] Q I1 r1 .nil q1))⟩
theorem De(pa:PlainAttrs T)(slot:Slot T name id)(hty:typeOf (.builtin id)=pure (.type "method_descriptor"))(hm:MtR X id r)(ho:PE X o to)(ha:PA X (e::es) t)(hbase:attributeBase o name X.env (eval o X.env)=eval o X.env:=by rfl)(hfew:((backTo cpos (starEach (e::es) X.env)).all (λx=> !x.1) && (backToKw cpos (keywordEach [] X.env)).all (λx=>x.1.isSome)
   && decide ((e::es).length+([]:List Keyword).length+(if ([]:List Keyword).isEmpty then 0 else 1)<30))=true:=by rfl)(hline:(apos.endLine==cpos.line)=true:=by rfl)(hs:starEach (e::es) X.env=(false,eval e X.env)::starEach es X.env:=by rfl)(hplain:(backTo cpos (starEach es X.env)).any (·.1)=false:=by rfl):
  PE X (.Call (.Attribute o name apos) (e::es) [] cpos) (tBM X.K T r to t):=by
 intro pins s σ H Q I h;refine wpAny_Call_method_late hbase hfew hline rfl (thn (ho pins s σ H _ I h) λv s1 ⟨x,H1,I1,r1,ty,q1⟩=> ?_);obtain⟨h1,h2⟩:=tyV_is I1 r1 ty;refine⟨T,id,pa,slot,hty,h1,h2,?_⟩;have hA:=ha cpos pins s1 σ H1 _ I1 q1;rw[hs] at hA ⊢;refine Calls.callWith_builtin (by show (false||(backTo cpos (starEach es X.env)).any (·.1))=false;rw[hplain]<;> rfl) (Calls.evalArgs_plain ?_);exact thn hA λus s2 ⟨vs,H2,I2,r2,q2⟩=>hm pins s2 σ H2 x vs v us Q I2 r1 r2 q2
end
def MtM(X:Cx)(id:String)(r:V->List V->Hp->VK->Prop):Prop:=
 ∀(pins:List (Addr×Obj)) (s:Shared) (σ:St) (H:Hp) (x:V) (xs:List V) (v:Value) (us:List Value) (Q:VK),Inv X pins σ H s->RelV x v->Vals xs us->r x xs H Q->
  wpAny (model X.prog X.w) X.A (call (.builtin id) (v::us)) (EP X pins σ Q) X.xe s
theorem Vals.one:∀{x:V} {us:List Value},Vals [x] us->∃u,us=[u]/\RelV x u
 |_,_,.cons r .nil=>⟨_,rfl,r⟩
theorem Vals.zero:∀{us:List Value},Vals [] us->us=[]
 |_,.nil=>rfl
theorem Vals.dropLast{xs:List V}{us:List Value}(h:Vals xs us):Vals xs.dropLast us.dropLast:=by
 induction h with
 |nil=>exact .nil
 |cons r t ih=>
  cases t with
  |nil=>exact .nil
  |cons q t'=>exact .cons r ih
theorem Vals.eraseIdx:∀{xs:List V} {us:List Value} (i:Nat),Vals xs us->Vals (xs.eraseIdx i) (us.eraseIdx i)
 |_,_,_,.nil=> .nil
 |_,_,0,.cons _ t=>t
 |_,_,i+1,.cons r t=> .cons r (Vals.eraseIdx i t)
theorem Vals.reverse{xs:List V}{us:List Value}(h:Vals xs us):Vals xs.reverse us.reverse:=by
 induction h with
 |nil=>exact .nil
 |cons r t ih=>rw[List.reverse_cons,List.reverse_cons];exact Vals.append ih (.cons r .nil)
theorem Vals.rep{xs:List V}{us:List Value}(h:Vals xs us):∀k:Nat,Vals (replicate k xs).flatten (replicate k us).flatten
 |0=> .nil
 |k+1=>by
  rw[replicate_succ,replicate_succ,flatten_cons,flatten_cons];exact Vals.append h (Vals.rep h k)
theorem Ti{α:Type}(l:List α):l.eraseIdx (l.length - 1)=l.dropLast:=by
 induction l with
 |nil=>rfl
 |cons a r ih=>
  cases r with
  |nil=>rfl
  |cons b r=>
   have e:(a::b::r).length - 1=((b::r).length - 1)+1:=by
    have h1:(a::b::r).length=r.length+2:=rfl;have h2:(b::r).length=r.length+1:=rfl;assumption
   rw[e,List.eraseIdx_cons_succ,ih]
   all_goals rfl
theorem Oo{α:Type}:∀(l:List α) (i:Nat),(l.eraseIdx i).length<=l.length
 |[],_=>le_refl _
 |_::_,0=>le_succ _
 |_::r,i+1=>Nat.succ_le_succ (Oo r i)
theorem Oh(its:List Value):∀(k:Nat) (acc:List Value),
  foldl (λx1 x2=>x1++x2) acc.toArray (replicate k its.toArray)=(acc++(replicate k its).flatten).toArray
 |0,acc=>by simp
 |k+1,acc=>by
  have e:acc.toArray++its.toArray=(acc++its).toArray:=by simp
  have e2:(acc++its)++(replicate k its).flatten=acc++(replicate (k+1) its).flatten:=by
   rw[replicate_succ,flatten_cons,append_assoc]
  rw[<-e2,<-Oh its k (acc++its),<-e,replicate_succ,foldl_cons]
section
variable{X:Cx}{pins:List (Addr×Obj)}{σ:St}{H:Hp}{s:Shared}{l b:Addr}{xs ys zs:List V}
theorem Inv.lset{its its':List Value}{n:Nat}{f:Array Value->Array Value}{t':Nat}(I:Inv X pins σ H s)(hH:H l=some (.lst xs))(e:s.heap.get? l=some {cls:= .type "list",data:= .seq its.toArray n})(hf:f its.toArray=its'.toArray)(hv:Vals ys its')(hz:ys.length<=sizeLine):
  Inv X pins σ (upd H l (.lst ys)) {s with heap:=s.heap.update l (Obj.mapSeq f),toks:=t'}:=by
 have q:=PySem.IsL.update e f;rw[hf] at q;refine I.write (x:=l) (e:=l) (by rw[hH];exact trivial) (.inl rfl) (λb' u hb hu=>(Heap.get?_update_other s.heap (Obj.mapSeq f) (Ne.symm hb)).trans hu) ⟨_,q⟩ ?_;exact⟨hz,its',_,hv,q⟩
theorem Inv.lnew{its:List Value}{t':Nat}(I:Inv X pins σ H s)(hv:Vals ys its)(hz:ys.length<=sizeLine):
  Inv X pins σ (upd H s.heap.objs.size (.lst ys)) {s with heap:=s.heap.push {cls:= .type "list",data:= .seq its.toArray},toks:=t'}:=
 I.laid (λ_ _ q=>Lt _ q) (le_refl _) ⟨hz,its,0,hv,Qa5 _ rfl⟩
theorem Inv.fresh(I:Inv X pins σ H s):H s.heap.objs.size=none:=I.hok.fresh (le_refl _)
theorem Inv.lstM(I:Inv X pins σ H s)(hH:H l=some (.lst xs)):xs.length<=sizeLine/\∃(its:List Value) (n:Nat),Vals xs its/\xs.length=its.length/\s.heap.get? l=some {cls:= .type "list",data:= .seq its.toArray n}:=by
 obtain⟨z,its,n,r,e⟩:=I.hok l _ hH;exact⟨z,its,n,r,r.length,e⟩
theorem Qt{n:Nat}(h:n<=sizeLine):Builtin.List.listTooLong n=false:=by
 unfold Builtin.List.listTooLong;exact decide_eq_false (by omega)
end
section
variable{X:Cx}
inductive Qr(x:V)(vs:List V)(H:Hp)(Q:VK):Prop
 |mk (l xs y:_):(x= .ref l)->(vs=[y])->(H l=some (.lst xs))->(xs.length<sizeLine)->(Q .non (upd H l (.lst (xs++[y]))))->Qr x vs H Q
def rAppend:V->List V->Hp->VK->Prop:=λx vs H Q=>Qr x vs H Q
theorem Cq:MtM X "list.append" rAppend:=by
 intro pins s σ H x vs v us Q I rx rv h;obtain⟨l,xs,y,rfl,rfl,hH,hz,q⟩:=h;cases rx;obtain⟨u,rfl,ru⟩:=rv.one;obtain⟨z,its,n,r,hl,e⟩:=I.lstM hH;refine Qg0 F.slot_list_append ⟨_,e,rfl⟩ F.entry_list_append (F.args_list_append_2 _ _) (PySem.list_append l its.toArray n u (by rw[size_toArray];omega)) ⟨e,?_⟩;refine⟨.non,_,I.lset (its':=its++[u]) hH e (by simp) (r.append (.cons ru .nil)) ?_,rfl,q⟩;rw[Qa3,List.length_singleton];assumption
inductive Rf(x:V)(vs:List V)(H:Hp)(Q:VK):Prop
 |mk (l b xs zs:_):(x= .ref l)->(vs=[.ref b])->(H l=some (.lst xs))->(H b=some (.lst zs))->(xs.length+zs.length<=sizeLine)->(Q .non (upd H l (.lst (xs++zs))))->Rf x vs H Q
def rExtend:V->List V->Hp->VK->Prop:=λx vs H Q=>Rf x vs H Q
theorem Nz:MtM X "list.extend" rExtend:=by
 intro pins s σ H x vs v us Q I rx rv h;obtain⟨l,b,xs,zs,rfl,rfl,hH,hB,hz,q⟩:=h;cases rx;obtain⟨u,rfl,ru⟩:=rv.one;cases ru;obtain⟨z,its,n,r,hl,e⟩:=I.lstM hH;obtain⟨z2,its2,n2,r2,hl2,e2⟩:=I.lstM hB;have hsz:its.toArray.size+its2.toArray.size<=sizeLine:=by rw[size_toArray,size_toArray];omega
 have hlong:¬(!its.toArray.isEmpty && Builtin.List.listTooLong (its.toArray.size+its2.toArray.size))=true:=by
  rw[Qt hsz,Bool.and_false];exact Bool.false_ne_true
 refine Qg0 F.slot_list_extend ⟨_,e,rfl⟩ F.entry_list_extend (F.args_list_extend_2 _ _)
  (AutoSeq1.list_extend_list_list_0 l its.toArray n b its2.toArray n2 hlong (by rw[size_toArray];omega) (by exact le_trans (by assumption) (by decide))) ⟨e,e2,?_⟩
 refine⟨.non,_,I.lset (its':=its++its2) hH e (by simp) (r.append r2) ?_,rfl,q⟩;rw[Qa3];assumption
inductive RPopP(x:V)(vs:List V)(H:Hp)(Q:VK):Prop
 |mk (l xs y:_):(x= .ref l)->(vs=[])->(H l=some (.lst xs))->(xs[xs.length - 1]? =some y)->(Q y (upd H l (.lst xs.dropLast)))->RPopP x vs H Q
def rPop:V->List V->Hp->VK->Prop:=λx vs H Q=>RPopP x vs H Q
theorem mt_pop:MtM X "list.pop" rPop:=by
 intro pins s σ H x vs v us Q I rx rv h;obtain⟨l,xs,y,rfl,rfl,hH,hy,q⟩:=h;cases rx;have hus:=rv.zero;subst hus;obtain⟨z,its,n,r,hl,e⟩:=I.lstM hH;obtain⟨u,hu,ru⟩:=r.get hy;have hy':its.toArray[its.toArray.size - 1]? =some u:=by
  show its.toArray[its.length - 1]? =some u;rw[<-Qf4,<-hl];exact hu
 refine Qg0 F.slot_list_pop ⟨_,e,rfl⟩ F.entry_list_pop (F.args_list_pop_1 _) (MeetsSeq.list_pop_last l its.toArray n u hy' (by rw[size_toArray];omega)) ⟨e,?_⟩;refine⟨y,_,I.lset (its':=its.dropLast) hH e ?_ r.dropLast ?_,ru,q⟩
 ·show its.toArray.eraseIdxIfInBounds (its.toArray.size - 1)=its.dropLast.toArray;rw[size_toArray,List.eraseIdxIfInBounds_toArray,Ti]
 ·rw[List.length_dropLast];omega
inductive Vw(x:V)(vs:List V)(H:Hp)(Q:VK):Prop
 |mk (l xs i k y:_):(x= .ref l)->(vs=[.int i])->(H l=some (.lst xs))->(-(2 ^ 63)<=i)->(i<2 ^ 63)->(seqIndex? i xs.length=some k)->(xs[k]? =some y)->(Q y (upd H l (.lst (xs.eraseIdx k))))->Vw x vs H Q
def rPopAt:V->List V->Hp->VK->Prop:=λx vs H Q=>Vw x vs H Q
theorem mt_popAt:MtM X "list.pop" rPopAt:=by
 intro pins s σ H x vs v us Q I rx rv h;obtain⟨l,xs,i,k,y,rfl,rfl,hH,h1,h2,hk,hy,q⟩:=h;cases rx;obtain⟨u,rfl,ru⟩:=rv.one;obtain⟨t,rfl⟩:=ru;obtain⟨z,its,n,r,hl,e⟩:=I.lstM hH;obtain⟨w,hw,rw'⟩:=r.get hy;refine Qg0 F.slot_list_pop ⟨_,e,rfl⟩ F.entry_list_pop (F.args_list_pop_2 _ _)
  (MeetsSeq.list_pop_at l its.toArray n i t k w (fitsIndex_both h1 h2) (by rw[size_toArray,<-hl];exact hk) (by rw[<-Qf4];exact hw) (by rw[size_toArray];omega)) ⟨e,?_⟩
 refine⟨y,_,I.lset (its':=its.eraseIdx k) hH e ?_ (r.eraseIdx k) ?_,rw',q⟩
 ·show its.toArray.eraseIdxIfInBounds k=(its.eraseIdx k).toArray;rw[List.eraseIdxIfInBounds_toArray]
 ·have:=Oo xs k;exact le_trans (by assumption) (by assumption)
inductive RCatP(x:V)(y:V)(H:Hp)(Q:VK):Prop
 |mk (l b xs zs:_):(x= .ref l)->(y= .ref b)->(H l=some (.lst xs))->(H b=some (.lst zs))->(xs.length+zs.length<=sizeLine)->(∀p,H p=none->Q (.ref p) (upd H p (.lst (xs++zs))))->RCatP x y H Q
def rCat:R2:=λx y H Q=>RCatP x y H Q
theorem P0:OpR X (binaryOp .Add) rCat:=by
 intro pins s σ H x y v u Q I rx ry h;obtain⟨l,b,xs,zs,rfl,rfl,hH,hB,hz,q⟩:=h;cases rx;cases ry;obtain⟨z,its,n,r,hl,e⟩:=I.lstM hH;obtain⟨z2,its2,n2,r2,hl2,e2⟩:=I.lstM hB;refine PySem.P.add_list e e2 ?_ (by rw[size_toArray,size_toArray];omega);have ea:its.toArray++its2.toArray=(its++its2).toArray:=by simp
 rw[ea];exact⟨.ref _,_,I.lnew (t':=s.toks) (r.append r2) (by rw[Qa3];assumption),rfl,q _ I.fresh⟩
inductive RRepP(x:V)(y:V)(H:Hp)(Q:VK):Prop
 |mk (l k xs:_):(x= .ref l)->(y= .int k)->(H l=some (.lst xs))->(-(2 ^ 63)<=k)->(k<2 ^ 63)->(xs.length * k.toNat<=sizeLine)->(∀p,H p=none->Q (.ref p) (upd H p (.lst (replicate k.toNat xs).flatten)))->RRepP x y H Q
def rRep:R2:=λx y H Q=>RRepP x y H Q
theorem len_rep{α:Type}(xs:List α)(k:Nat):(replicate k xs).flatten.length=k * xs.length:=by
 induction k with
 |zero=>simp
 |succ k ih=>rw[replicate_succ,flatten_cons,Qa3,ih,Nat.succ_mul,Nat.add_comm]
theorem Tx:OpR X (binaryOp .Mult) rRep:=by
 intro pins s σ H x y v u Q I rx ry h;obtain⟨l,k,xs,rfl,rfl,hH,h1,h2,hz,q⟩:=h;cases rx;obtain⟨t,rfl⟩:=ry;obtain⟨z,its,n,r,hl,e⟩:=I.lstM hH;have hlen:its.toArray.size * k.toNat<=sizeLine:=by rw[size_toArray,<-hl];exact hz
 have hcap:¬its.toArray.size * k.toNat > (2 ^ 63 - 1) / 8:=by
  have:(sizeLine:Nat)<=(2 ^ 63 - 1) / 8:=by decide
  omega
 have hfit:¬(!Builtin.List.listFitsIndex k)=true:=by
  rw[fitsIndex_both h1 h2];exact Bool.false_ne_true
 have hlong:¬Builtin.List.listTooLong (its.toArray.size * k.toNat)=true:=by
  rw[Qt hlen];exact Bool.false_ne_true
 have hnew:foldl (λx1 x2=>x1++x2) #[] (replicate (if its.toArray.isEmpty=true then 0 else k.toNat) its.toArray)=(replicate k.toNat its).flatten.toArray:=by
  have f0:∀m:Nat,foldl (λx1 x2=>x1++x2) #[] (replicate m its.toArray)=(replicate m its).flatten.toArray:=λm=>by
   have:=Oh its m [];rw[nil_append] at this;exact this
  rw[f0];cases its with
  |nil=>simp
  |cons a r'=>rw[Qa1 (by simp)]
 refine wpAny_binaryOp_repeat_ref (T:="list") (U:="int") (by decide) ⟨_,e,rfl⟩ (λs'=>typeIs_int s' k t) noFill_list_mul F.fills_int_mul F.slot_int_rmul repeat_list F.slot_int_index.lookup
  (Qg0 F.slot_int_rmul (typeIs_int s k t) F.entry_int_rmul (F.args_int_rmul_2 _ _) (int___rmul___int_list k t l its.toArray n)
   ⟨e,rfl,⟨_,e,rfl⟩,Qg0 F.slot_list_mul ⟨_,e,rfl⟩ F.entry_list_mul (F.args_list_mul_2 _ _) (AutoListH.list___mul___list_int_3 l its.toArray n k t hfit hcap hlong) ⟨e,?_⟩⟩)
 rw[hnew];exact⟨.ref _,_,I.lnew (t':=s.toks) (r.rep k.toNat) (by rw[len_rep,Nat.mul_comm];exact hz),rfl,q _ I.fresh⟩
end
section
variable{κ:Type}[DecidableEq κ]
def Bj(kvs:List (κ×V))(k:κ):Option V:=(kvs.find? λkv=>decide (kv.1=k)).map (·.2)
def Bw(kvs:List (κ×V))(k:κ)(v:V):List (κ×V):=
 if (kvs.any λkv=>decide (kv.1=k))=true then kvs.map (λkv=>if kv.1=k then (kv.1,v) else kv) else kvs++[(k,v)]
def Em(kvs:List (κ×V))(k:κ):List (κ×V):=kvs.filter λkv=>decide (kv.1≠k)
theorem Ci{p:κ×V}{r:List (κ×V)}{k:κ}(e:p.1=k):Bj (p::r) k=some p.2:=by simp[Bj,find?_cons,e]
theorem B9{p:κ×V}{r:List (κ×V)}{k:κ}(e:¬p.1=k):Bj (p::r) k=Bj r k:=by simp[Bj,find?_cons,e]
theorem Fx(k:κ):∀kvs:List (κ×V),(kvs.any λkv=>decide (kv.1=k))=(Bj kvs k).isSome
 |[]=>rfl
 |p::r=>by
  rw[any_cons];by_cases e:p.1=k
  ·simp only[Ci e,decide_eq_true e,Bool.true_or,Option.isSome_some]
  ·rw[B9 e,decide_eq_false e,Bool.false_or];exact Fx k r
theorem Sd(k j:κ)(y:V):∀kvs:List (κ×V),Bj (kvs.map λkv=>if kv.1=k then (kv.1,y) else kv) j=(Bj kvs j).map λx=>if j=k then y else x
 |[]=>rfl
 |p::r=>by
  have ih:=Sd k j y r;rw[Qb1];by_cases h:p.1=k
  ·rw[Qa2 h];by_cases e:p.1=j
   ·rw[Ci (p:=(p.1,y)) e,Ci e,Option.map_some,Qa2 (e.symm.trans h)]
   ·rw[B9 (p:=(p.1,y)) e,B9 e,ih]
  ·rw[Qa1 h];by_cases e:p.1=j
   ·rw[Ci (p:=p) e,Ci e,Option.map_some,Qa1 (λz=>h (e.trans z))]
   ·rw[B9 (p:=p) e,B9 e,ih]
theorem Nn(k j:κ)(y:V):∀kvs:List (κ×V),Bj kvs k=none->Bj (kvs++[(k,y)]) j=if j=k then some y else Bj kvs j
 |[],_=>by
  by_cases e:k=j
  ·rw[Qa2 e.symm];exact Ci (p:=(k,y)) e
  ·rw[Qa1 (λz=>e z.symm)];exact B9 (p:=(k,y)) e
 |p::r,hn=>by
  rw[List.cons_append];have hk:¬p.1=k:=λz=>by rw[Ci z] at hn;cases hn
  rw[B9 hk] at hn;have ih:=Nn k j y r hn;by_cases e:p.1=j
  ·rw[Ci e,Ci e,Qa1 (λz=>hk (e.trans z))]
  ·rw[B9 e,B9 e,ih]
theorem Gd(kvs:List (κ×V))(k j:κ)(y:V):Bj (Bw kvs k y) j=if j=k then some y else Bj kvs j:=by
 unfold Bw;by_cases a:(kvs.any λkv=>decide (kv.1=k))=true
 ·rw[Qa2 a,Sd];rw[Fx] at a;by_cases e:j=k
  ·obtain⟨x,hx⟩:=Qe6.mp a;rw[Qa2 e,e,hx,Option.map_some,Qa2 rfl]
  ·rw[Qa1 e];cases Bj kvs j with
   |none=>rfl
   |some x=>rw[Option.map_some,Qa1 e]
 ·rw[Qa1 a];refine Nn k j y kvs ?_;rw[Fx] at a;cases q:Bj kvs k with
  |none=>rfl
  |some x=>rw[q] at a;exact(a rfl).elim
theorem Cu(kvs:List (κ×V))(k:κ)(v:V):(Bw kvs k v).length<=kvs.length+1:=by
 unfold Bw;split
 ·rw[If];exact le_add_right _ _
 ·rw[Qa3,Qb4,Qe9];exact Nat.add_le_add_left (by decide) _
theorem Ld{kvs:List (κ×V)}{k:κ}(v:V)(h:Bj kvs k=none):Bw kvs k v=kvs++[(k,v)]:=by
 unfold Bw;rw[Fx,h];exact Qa1 (by decide)
theorem RelO.isSome_eq{o:Option V}{u:Option Value}(r:RelO o u):o.isSome=u.isSome:=by
 cases o with
 |none=>cases u with
  |none=>rfl
  |some _=>exact(show False from r).elim
 |some _=>cases u with
  |none=>exact(show False from r).elim
  |some _=>rfl
theorem RelO.getD{o:Option V}{u:Option Value}{d:V}{d':Value}(r:RelO o u)(rd:RelV d d'):RelV (o.getD d) (u.getD d'):=by
 cases o with
 |none=>cases u with
  |none=>exact rd
  |some _=>exact(show False from r).elim
 |some _=>cases u with
  |none=>exact(show False from r).elim
  |some _=>exact r
theorem KV.val{kvs:List (κ×V)}{vs:List (κ×Value)}(r:KV kvs vs)(k:κ):RelO (Bj kvs k) (valueAt vs k):=by
 unfold KV at r
 induction r with
 |nil=>exact True.intro
 | @cons p q ps qs h t ih=>
  obtain⟨h1,h2⟩:=h;by_cases e:p.1=k
  ·have e':q.1=k:=h1.symm.trans e;have b:valueAt (q::qs) k=some q.2:=by simp[valueAt,find?_cons,e']
   rw[Ci e,b];exact h2
  ·have e':¬q.1=k:=λz=>e (h1.trans z);have b:valueAt (q::qs) k=valueAt qs k:=by simp[valueAt,find?_cons,e']
   rw[B9 e,b];exact ih
theorem KV.any{kvs:List (κ×V)}{vs:List (κ×Value)}(r:KV kvs vs)(k:κ):(kvs.any λkv=>decide (kv.1=k))=vs.any λkv=>decide (kv.1=k):=by
 unfold KV at r
 induction r with
 |nil=>rfl
 |cons h t ih=>rw[any_cons,any_cons,ih,h.1]
theorem KV.repl{kvs:List (κ×V)}{vs:List (κ×Value)}(r:KV kvs vs)(k:κ){y:V}{u:Value}(ry:RelV y u):
  KV (kvs.map λkv=>if kv.1=k then (kv.1,y) else kv) (vs.map λkv=>if kv.1=k then (kv.1,u) else kv):=by
 unfold KV at r ⊢
 induction r with
 |nil=>exact .nil
 | @cons p q ps qs h t ih=>
  rw[Qb1,Qb1];refine .cons ?_ ih;obtain⟨h1,h2⟩:=h;by_cases e:p.1=k
  ·rw[Qa2 e,Qa2 (h1.symm.trans e)];exact⟨h1,ry⟩
  ·rw[Qa1 e,Qa1 (λz=>e (h1.trans z))];exact⟨h1,h2⟩
theorem KV.put{kvs:List (κ×V)}{vs:List (κ×Value)}(r:KV kvs vs)(k:κ){y:V}{u:Value}(ry:RelV y u):KV (Bw kvs k y) (stored vs k u):=by
 unfold Bw stored;rw[r.any k];by_cases e:(vs.any λkv=>decide (kv.1=k))=true
 ·rw[Qa2 e,Qa2 e];exact r.repl k ry
 ·rw[Qa1 e,Qa1 e];exact Paired.snoc r ⟨rfl,ry⟩
theorem KV.drop{kvs:List (κ×V)}{vs:List (κ×Value)}(r:KV kvs vs)(k:κ):KV (Em kvs k) (without vs k):=by
 unfold KV at r ⊢;unfold Em without
 induction r with
 |nil=>exact .nil
 | @cons p q ps qs h t ih=>
  obtain⟨h1,h2⟩:=h;rw[filter_cons,filter_cons];by_cases e:p.1=k
  ·have a:¬decide (p.1≠k)=true:=by simp[e]
   have b:¬decide (q.1≠k)=true:=by simp[h1.symm.trans e]
   rw[Qa1 a,Qa1 b];exact ih
  ·have e':¬q.1=k:=λz=>e (h1.trans z);have a:decide (p.1≠k)=true:=by simp[e]
   have b:decide (q.1≠k)=true:=by simp[e']
   rw[Qa2 a,Qa2 b];exact .cons ⟨h1,h2⟩ ih
theorem KV.length{kvs:List (κ×V)}{vs:List (κ×Value)}(r:KV kvs vs):kvs.length=vs.length:=Paired.length r
theorem Qo(kvs:List (κ×V))(k:κ):(Em kvs k).length<=kvs.length:=Qd1 _ _
end
theorem J8{P:Program}{w:World}{k:Key}{u:Value}(r:RelV (kV k) u):(Bg P w).is k u=true:=by
 cases k with
 |inl i=>obtain⟨t,e⟩:=(show ∃t,u=Value.int i t from r);subst e;exact Ra P w i t
 |inr x=>obtain⟨t,e⟩:=(show ∃t,u=Value.str x t from r);subst e;exact Q3 P w x t
theorem N9{P:Program}{w:World}:∀{ks:List Key} {us:List Value},Vals (ks.map kV) us->ItemsAre (Bg P w) ks us
 |[],_,r=>by rw[map_nil] at r;cases r;exact .nil
 |k::ks,_,r=>by
  rw[Qb1] at r;cases r with
  |cons h t=>exact .cons (J8 h) (N9 t)
abbrev KT(H:Hp):List (List Key×V)->List (List Key×Addr×Value)->Prop:=Paired λp q=>p.1=q.1/\H q.2.1=some (.tup (p.1.map kV))/\RelV p.2 q.2.2
theorem KT.val{H:Hp}{kvs:List (List Key×V)}{xs:List (List Key×Addr×Value)}(r:KT H kvs xs)(k:List Key):RelO (Bj kvs k) ((atKey xs k).map (·.2)):=by
 induction r with
 |nil=>exact True.intro
 | @cons p q ps qs h t ih=>
  obtain⟨h1,_,h2⟩:=h;by_cases e:p.1=k
  ·have e':q.1=k:=h1.symm.trans e;have b:atKey (q::qs) k=some q.2:=by simp[atKey,find?_cons,e']
   rw[Ci e,b];exact h2
  ·have e':¬q.1=k:=λz=>e (h1.trans z);have b:atKey (q::qs) k=atKey qs k:=by simp[atKey,find?_cons,e']
   rw[B9 e,b];exact ih
theorem KT.repl{H:Hp}{kvs:List (List Key×V)}{xs:List (List Key×Addr×Value)}(r:KT H kvs xs)(k:List Key){y:V}{u:Value}(ry:RelV y u):
  KT H (kvs.map λkv=>if kv.1=k then (kv.1,y) else kv) (xs.map (putAt k u)):=by
 induction r with
 |nil=>exact .nil
 | @cons p q ps qs h t ih=>
  rw[Qb1,Qb1];refine .cons ?_ ih;obtain⟨h1,h2,h3⟩:=h;unfold putAt;by_cases e:p.1=k
  ·rw[Qa2 e,Qa2 (h1.symm.trans e)];exact⟨h1,h2,ry⟩
  ·rw[Qa1 e,Qa1 (λz=>e (h1.trans z))];exact⟨h1,h2,h3⟩
theorem KT.put{H:Hp}{kvs:List (List Key×V)}{xs:List (List Key×Addr×Value)}(r:KT H kvs xs)(k:List Key){b:Addr}{y:V}{u:Value}(hb:H b=some (.tup (k.map kV)))(ry:RelV y u):
  KT H (Bw kvs k y) (storedH xs k b u):=by
 have e:(kvs.any λkv=>decide (kv.1=k))=(atKey xs k).isSome:=by
  rw[Fx,(r.val k).isSome_eq,Option.isSome_map]
 unfold Bw storedH;rw[e];by_cases q:(atKey xs k).isSome=true
 ·rw[Qa2 q,Qa2 q];exact r.repl k ry
 ·rw[Qa1 q,Qa1 q];exact Paired.snoc r ⟨rfl,hb,ry⟩
theorem KT.keeps{H H':Hp}{kvs:List (List Key×V)}{xs:List (List Key×Addr×Value)}(r:KT H kvs xs)(ht:∀b ys,H b=some (.tup ys)->H' b=some (.tup ys)):KT H' kvs xs:=
 Paired.mapP r λ_ _ z=>⟨z.1,ht _ _ z.2.1,z.2.2⟩
section
variable{P:Program}{w:World}{H:Hp}{h:Heap}{a:Addr}
theorem rd_of{u:HO}(ok:HOk P w H h)(e:Rd H a u):ObjOk P w H h a u:=e.ok ok
theorem Mv{kvs:List (Key×V)}(ok:HOk P w H h)(e:Rd H a (.dK kvs)):kvs.length<=sizeLine/\(a==sysModules)=false/\∃vs,KV kvs vs/\h.DictOf (Bg P w) a vs:=
 show ObjOk P w H h a (.dK kvs) from rd_of ok e
theorem Ih{kvs:List (Key×V)}(ok:HOk P w H h)(e:H a=some (.dK kvs)):kvs.length<=sizeLine/\(a==sysModules)=false/\∃vs,KV kvs vs/\h.DictOf (Bg P w) a vs:=Mv ok (.inl e)
theorem Hc{ks:List Key}(ok:HOk P w H h)(e:H a=some (.tup (ks.map kV))):(tupleKind (Bg P w)).is h ks a:=by
 obtain⟨_,its,r,o,h1,h2,_,n,h3⟩:=(show ObjOk P w H h a (.tup (ks.map kV)) from ok a _ e)
 exact⟨o,its.toArray,n,h1,h2,h3,by simpa using N9 r⟩
theorem On{kvs:List (List Key×V)}(ok:HOk P w H h)(e:Rd H a (.dT kvs)):kvs.length<=sizeLine/\(a==sysModules)=false/\
  ∃xs,KT H kvs xs/\h.DictOfH (tupleKind (Bg P w)) a xs:=by
 obtain⟨z,y,xs,r,o,es,ep,h1,h2,h3,h4,h5⟩:=(show ObjOk P w H h a (.dT kvs) from rd_of ok e)
 refine⟨z,y,xs,r,o,es,ep,h1,h2,h3,h4,λx hx=> ?_,h5⟩;have all:∀{l:List (List Key×V)} {m:List (List Key×Addr×Value)},KT H l m->∀x∈m,(tupleKind (Bg P w)).is h x.1 x.2.1:=by
  intro l m q
  induction q with
  |nil=>intro x hx;exact nomatch hx
  | @cons p q ps qs hq t ih=>
   intro x hx;rcases Qa6.mp hx with e|hx
   ·subst e;exact Hc ok (by rw[<-hq.1];exact hq.2.1)
   ·exact ih x hx
 exact all r x hx
theorem V7{kvs:List (List Key×V)}(ok:HOk P w H h)(e:H a=some (.dT kvs)):kvs.length<=sizeLine/\(a==sysModules)=false/\
  ∃xs,KT H kvs xs/\h.DictOfH (tupleKind (Bg P w)) a xs:=On ok (.inl e)
end
def DGet(H:Hp)(a:Addr)(y:V)(r:Option V):Prop:=
 (∃kvs k,Rd H a (.dK kvs)/\y=kV k/\r=Bj kvs k)\/∃kvs k b,Rd H a (.dT kvs)/\y= .ref b/\H b=some (.tup (k.map kV))/\r=Bj kvs k
def DPut(H:Hp)(a:Addr)(y v:V)(H':Hp):Prop:=
 (∃kvs k,H a=some (.dK kvs)/\y=kV k/\kvs.length<sizeLine/\H'=upd H a (.dK (Bw kvs k v)))\/
 ∃kvs k b,H a=some (.dT kvs)/\y= .ref b/\H b=some (.tup (k.map kV))/\kvs.length<sizeLine/\H'=upd H a (.dT (Bw kvs k v))
theorem DGet.k{H:Hp}{a:Addr}{kvs:List (Key×V)}{k:Key}(e:H a=some (.dK kvs)):DGet H a (kV k) (Bj kvs k):= .inl ⟨kvs,k,.inl e,rfl,rfl⟩
theorem DGet.t{H:Hp}{a b:Addr}{kvs:List (List Key×V)}{k:List Key}(e:H a=some (.dT kvs))(eb:H b=some (.tup (k.map kV))):DGet H a (.ref b) (Bj kvs k):= .inr ⟨kvs,k,b,.inl e,rfl,eb,rfl⟩
theorem DPut.k{H:Hp}{a:Addr}{kvs:List (Key×V)}{k:Key}{v:V}(e:H a=some (.dK kvs))(hl:kvs.length<sizeLine):DPut H a (kV k) v (upd H a (.dK (Bw kvs k v))):= .inl ⟨kvs,k,e,rfl,hl,rfl⟩
theorem DPut.t{H:Hp}{a b:Addr}{kvs:List (List Key×V)}{k:List Key}{v:V}(e:H a=some (.dT kvs))(eb:H b=some (.tup (k.map kV)))(hl:kvs.length<sizeLine):
  DPut H a (.ref b) v (upd H a (.dT (Bw kvs k v))):= .inr ⟨kvs,k,b,e,rfl,eb,hl,rfl⟩
section
variable{X:Cx}{pins:List (Addr×Obj)}{σ:St}{H:Hp}{s:Shared}{a:Addr}{y v:V}{u r:Value}{o:Option V}{A:Around}{E:Value->Shared->Prop}
theorem Inv.big(I:Inv X pins σ H s):sysModules<s.heap.objs.size:=by
 have h:mainGlobals<s.heap.objs.size:=(I.mod.glob.keeps I.bk).lt;exact lt_trans (by decide) h
theorem Wn{Q:Value->Shared->Prop}(hu:A.units+1<cLine)(I:Inv X pins σ H s)(g:DGet H a y (some v))(ry:RelV y u)(h:∀w' s',Inv X pins σ H s'->RelV v w'->Q w' s'):
  wpAny (model X.prog X.w) A (getItem (.ref a) u) Q E s:=by
 rcases g with⟨kvs,k,e,ey,l⟩|⟨kvs,k,b,e,ey,eb,l⟩
 ·subst ey;obtain⟨z,hd,vs,rel,dd⟩:=Mv I.hok e;obtain⟨w',hw,rw'⟩:=RelO.some_of (v:=v) (o:=valueAt vs k) (by rw[l];exact rel.val k);exact wpAny_getItem_of (J8 ry) dd.mapOf hw (h w' _ (I.tok _) rw')
 ·subst ey;cases (show u=Value.ref b from ry);obtain⟨z,hd,xs,rel,dd⟩:=On I.hok e;obtain⟨w',hw,rw'⟩:=RelO.some_of (v:=v) (o:=(atKey xs k).map (·.2)) (by rw[l];exact rel.val k);obtain⟨p,hp,hp2⟩:=map_eq_some_iff.mp hw;refine wpAny_getItem_heap (Qg1 hu) (Hc I.hok eb) dd hp ?_;rw[hp2];exact h w' _ (I.tok _) rw'
theorem d_notIn{Q:Value->Shared->Prop}(hu:A.units+1<cLine)(I:Inv X pins σ H s)(g:DGet H a y o)(ry:RelV y u)(h:∀s',Inv X pins σ H s'->Q (.bool (!o.isSome)) s'):
  wpAny (model X.prog X.w) A (compareOp .NotIn u (.ref a)) Q E s:=by
 rcases g with⟨kvs,k,e,ey,l⟩|⟨kvs,k,b,e,ey,eb,l⟩
 ·subst ey;obtain⟨z,hd,vs,rel,dd⟩:=Mv I.hok e;refine wpAny_notIn_of (J8 ry) hd dd.mapOf ?_;rw[<-(rel.val k).isSome_eq,<-l];exact h _ (I.tok _)
 ·subst ey;cases (show u=Value.ref b from ry);obtain⟨z,hd,xs,rel,dd⟩:=On I.hok e;refine wpAny_notIn_heap (Qg1 hu) (Hc I.hok eb) hd dd ?_;have q:=(rel.val k).isSome_eq;rw[Option.isSome_map] at q;rw[<-q,<-l];exact h _ (I.tok _)
theorem Fi{h':Heap}{t':Nat}{ob:HO}(I:Inv X pins σ H s)(mu:Mut (H a))(hs:SameBut a s.heap h')(he:∃q,h'.get? a=some q)(new:ObjOk X.prog X.w (upd H a ob) h' a ob):
  Inv X pins σ (upd H a ob) {s with heap:=h',toks:=t'}:=
 I.write (x:=a) (e:=a) mu (.inl rfl) (λb q hb z=>(hs.2 b hb).trans z) he new
theorem Os{P:Program}{w:World}{H':Hp}{h':Heap}{kvs:List (Key×V)}{vs:List (Key×Value)}(z:kvs.length<=sizeLine)(hd:(a==sysModules)=false)(rel:KV kvs vs)(dd:h'.DictOf (Bg P w) a vs):
  ObjOk P w H' h' a (.dK kvs):=⟨z,hd,vs,rel,dd⟩
theorem Ye{H':Hp}{Q:Unit->Shared->Prop}(hu:A.units+1<cLine)(I:Inv X pins σ H s)(g:DPut H a y v H')(ry:RelV y u)(rv:RelV v r)(h:∀s',Inv X pins σ H' s'->Q () s'):
  wpAny (model X.prog X.w) A (setItem (.ref a) u r) Q E s:=by
 rcases g with⟨kvs,k,e,ey,l,eH⟩|⟨kvs,k,b,e,ey,eb,l,eH⟩
 ·subst ey eH;obtain⟨z,hd,vs,rel,dd⟩:=Ih I.hok e;have hz:vs.length<=sizeLine:=by rw[<-rel.length];exact z
  have hl:(Bw kvs k v).length<=sizeLine:=by have:=Cu kvs k v;exact le_trans (by assumption) (by assumption)
  refine wpAny_setItem_pairs (hsz:=hz) (J8 ry) dd λh' dd' hs=>h _ ?_;have he:∃q,h'.get? a=some q:=let ⟨q,_,_,hq,_⟩:=dd';⟨q,hq⟩
  exact Fi I (by rw[e];exact True.intro) hs he (Os hl hd (rel.put k rv) dd')
 ·subst ey eH;cases (show u=Value.ref b from ry);obtain⟨z,hd,xs,rel,dd⟩:=V7 I.hok e;have hz:xs.length<=sizeLine:=by rw[<-Paired.length rel];exact z
  have hl:(Bw kvs k v).length<=sizeLine:=by have:=Cu kvs k v;exact le_trans (by assumption) (by assumption)
  refine wpAny_setItem_heap (hsz:=hz) (Qg1 hu) (Hc I.hok eb) dd λh' dd' hs=>h _ ?_;obtain⟨q,es,ep,hq,h2,h3,h4,_,h5⟩:=dd';refine Fi I (by rw[e];exact True.intro) hs ⟨q,hq⟩ ⟨hl,hd,_,(rel.put k eb rv).keeps λc ys ec=> ?_,q,es,ep,hq,h2,h3,h4,h5⟩;rw[Ai (Ar ec e (λz=>nomatch z))];exact ec
end
section
variable{X:Cx}{pins:List (Addr×Obj)}{σ:St}{H:Hp}{s:Shared}{a:Addr}{kvs:List (Key×V)}{k:Key}{u:Value}{A:Around}{E:Value->Shared->Prop}
theorem X8{Q:Unit->Shared->Prop}(I:Inv X pins σ H s)(e:H a=some (.dK kvs))(ry:RelV (kV k) u)(l:(Bj kvs k).isSome=true)(h:∀s',Inv X pins σ (upd H a (.dK (Em kvs k))) s'->Q () s'):
  wpAny (model X.prog X.w) A (delItem (.ref a) u) Q E s:=by
 obtain⟨z,hd,vs,rel,dd⟩:=Ih I.hok e;refine wpAny_delItem_slot dd.typeIs (by decide) PySem.F.slot_dict_delitem
  (Qg6 PySem.F.slot_dict_delitem dd.typeIs PySem.F.entry_dict_delitem (PySem.F.args_dict_delitem_2 _ _) (meets_dict_delitem_pairs (Bg X.prog X.w) a (J8 ry)) ⟨vs,dd,by rw[<-rel.length];exact z,by rw[<-(rel.val k).isSome_eq];exact l,λh' dd' hs=>h _ ?_⟩)
 have he:∃q,h'.get? a=some q:=let ⟨q,_,_,hq,_⟩:=dd';⟨q,hq⟩
 exact Fi I (by rw[e];exact True.intro) hs he (Os (le_trans (Qo kvs k) z) hd (rel.drop k) dd')
theorem d_pop{v:V}{more:List Value}{Q:Value->Shared->Prop}(I:Inv X pins σ H s)(e:H a=some (.dK kvs))(ry:RelV (kV k) u)(l:Bj kvs k=some v)(hm:more=[]\/∃x,more=[x])(h:∀w' s',Inv X pins σ (upd H a (.dK (Em kvs k))) s'->RelV v w'->Q w' s'):wpAny (model X.prog X.w) A (call (.builtin "dict.pop") (.ref a::u::more)) Q E s:=by
 obtain⟨z,hd,vs,rel,dd⟩:=Ih I.hok e;obtain⟨w',hw,rw'⟩:=RelO.some_of (v:=v) (o:=valueAt vs k) (by rw[<-l];exact rel.val k);have hp:(keyPart u).isSome=true:=by
  cases k with
  |inl i=>obtain⟨t,q⟩:=(show ∃t,u=Value.int i t from ry);subst q;rfl
  |inr x=>obtain⟨t,q⟩:=(show ∃t,u=Value.str x t from ry);subst q;rfl
 have ha:argsOk "dict.pop" ⟨.ref a::u::more,[]⟩:=by
  rcases hm with q|⟨x,q⟩
  ·subst q;exact PySem.F.args_dict_pop_2 _ _
  ·subst q;exact PySem.F.args_dict_pop_3 _ _ _
 refine Qg6 PySem.F.slot_dict_pop dd.typeIs PySem.F.entry_dict_pop ha (meets_dict_pop_there (Bg X.prog X.w) a (J8 ry) more hm hp)
  ⟨vs,w',dd,by rw[<-rel.length];exact z,hw,λh' dd' hs=>h w' _ ?_ rw'⟩
 have he:∃q,h'.get? a=some q:=let ⟨q,_,_,hq,_⟩:=dd';⟨q,hq⟩
 exact Fi I (by rw[e];exact True.intro) hs he (Os (le_trans (Qo kvs k) z) hd (rel.drop k) dd')
theorem d_len{Q:Value->Shared->Prop}(I:Inv X pins σ H s)(e:Rd H a (.dK kvs))(h:∀t s',Inv X pins σ H s'->Q (.int kvs.length t) s'):wpAny (model X.prog X.w) A (call (.builtin "len") [.ref a]) Q E s:=by
 obtain⟨z,hd,vs,rel,dd⟩:=Mv I.hok e;refine call_len_dict hd dd (by rw[<-rel.length];rw[Qb3] at z;omega) ?_;rw[<-rel.length];exact h _ _ (I.tok _)
end
def NoSl(i:Expr):Prop:=∀ov iv,subscripted i false ov iv=operate [ov,iv] (getItem ov iv)
theorem subD_of{prog:Program}{w:World}{A:Around}{E:Value->Shared->Prop}{s:Shared}{env:Env}{value slice:Expr}{pos:Pos}{T id:String}{Q:Value->Shared->Prop}(hl:typeLookup (.type T) "__getitem__"=pure (some (.builtin id)))(hs:NoSl slice)(h:wpAny (model prog w) A (eval value env) (λo s₁=>wpAny (model prog w) A (eval slice env) (λi s₂=>s₂.TypeIs o T/\wpAny (model prog w) A (getItem o i) Q E s₂) E s₁) E s):
  wpAny (model prog w) A (eval (.Subscript value slice pos) env) Q E s:=by
 refine Subscript_ (Qe3 h (λo s₁ h₁=>Qe3 h₁ (λi s₂ h₂=> ?_) λ_ _ x=>x) λ_ _ x=>x);obtain⟨hT,h₂⟩:=h₂;unfold subscriptTail;refine Gt ?_;rw[getitemInPython_of_ne hT.not_modules];refine Gt (wpAny_specialOf hT hl ?_);have fin:wpAny (model prog w) A (subscripted slice false o i) (λr s₃=>wpAny (model prog w) A (letTemporaryGo value o r >>=λ_=>pure r) Q E s₃) E s₂:=by
  rw[hs o i];exact wpAny_operating (Qe3 h₂ (λr s₃ h₃=>Gt (wpAny_letTemporaryGo (Qa0 h₃))) λ_ _ x=>x)
 first
  |exact Qa0 (Gt fin)
  |exact Gt (Qa0 (Gt fin))
  |exact Gt fin
theorem Sh{X:Cx}{pins:List (Addr×Obj)}{σ:St}{H:Hp}{s:Shared}{a:Addr}{y:V}{o:Option V}(I:Inv X pins σ H s)(g:DGet H a y o):s.TypeIs (.ref a) "dict":=by
 rcases g with⟨kvs,k,e,_,_⟩|⟨kvs,k,b,e,_,_,_⟩
 ·obtain⟨_,_,vs,_,dd⟩:=Mv I.hok e;exact dd.typeIs
 ·obtain⟨_,_,xs,_,dd⟩:=On I.hok e;exact dd.typeIs
def tDGet(td ty:TE):TE:=λσ H Q=>td σ H λx H1=>ty σ H1 λy H2=>∃a v,x= .ref a/\DGet H2 a y (some v)/\Q v H2
def tDNotIn(ty td:TE):TE:=λσ H Q=>ty σ H λy H1=>td σ H1 λx H2=>∃a o,x= .ref a/\DGet H2 a y o/\Q (.bl (!o.isSome)) H2
def sDPut(td ty tv:TE):TS:=λD σ H=>tv σ H λv H1=>td σ H1 λx H2=>ty σ H2 λy H3=>∃a H4,x= .ref a/\DPut H3 a y v H4/\D.nx σ H4
def sDDel(td ty:TE):TS:=λD σ H=>td σ H λx H1=>ty σ H1 λy H2=>∃a kvs k,x= .ref a/\H2 a=some (.dK kvs)/\y=kV k/\(Bj kvs k).isSome=true/\D.nx σ (upd H2 a (.dK (Em kvs k)))
section
variable{X:Cx}{o i e value:Expr}{pos pos' tpos:Pos}{td ty tv:TE}
theorem Dh(hu:X.A.units+1<cLine)(ho:PE X o td)(hi:PE X i ty)(hs:NoSl i):PE X (.Subscript o i pos) (tDGet td ty):=by
 intro pins s σ H Q I h;refine subD_of PySem.F.slot_dict_getitem.lookup hs (thn (ho pins s σ H _ I h) λu s1 ⟨x,H1,I1,rx,q1⟩=>thn (hi pins s1 σ H1 _ I1 q1) λiv s2 ⟨y,H2,I2,ry,a,v,ex,g,q2⟩=> ?_);subst ex;obtain rfl:u=Value.ref a:=rx;exact⟨Sh I2 g,Wn hu I2 g ry λw' s3 I3 rw'=>⟨v,H2,I3,rw',q2⟩⟩
theorem Wx(hu:X.A.units+1<cLine)(hi:PE X i ty)(ho:PE X o td):PC X .NotIn i o (tDNotIn ty td):=by
 intro pins s σ H Q I h;refine thn (hi pins s σ H _ I h) λiv s1 ⟨y,H1,I1,ry,q1⟩=>thn (ho pins s1 σ H1 _ I1 q1) λu s2 ⟨x,H2,I2,rx,a,ov,ex,g,q2⟩=> ?_;subst ex;obtain rfl:u=Value.ref a:=rx;exact d_notIn hu I2 g ry λs3 I3=>⟨.bl (!ov.isSome),H2,I3,rfl,q2⟩
theorem Kl(hu:X.A.units+1<cLine)(ho:PE X o td)(hi:PE X i ty)(hv:PE X value tv)(hs:swapsWith value (some (.Subscript o i pos')) pos.line X.env=pure false):
  PS X (.Assign [.Subscript o i pos'] value pos) (sDPut td ty tv):=by
 intro pins s σ H D I h;refine wpAny_Assign_Subscript (thn (hv pins s σ H _ I h) λr s1 ⟨v,H1,I1,rv,q1⟩=>thn (ho pins s1 σ H1 _ I1 q1) λu s2 ⟨x,H2,I2,rx,q2⟩=>thn (hi pins s2 σ H2 _ I2 q2) λiv s3 ⟨y,H3,I3,ry,a,H4,ex,g,q3⟩=> ?_) hs;subst ex;obtain rfl:u=Value.ref a:=rx;exact Ye hu I3 g ry rv λs4 I4=>⟨σ,H4,I4,q3⟩
theorem ps_ddel(ho:PE X o td)(hi:PE X i ty):PS X (.Delete [.Subscript o i tpos] pos) (sDDel td ty):=by
 intro pins s σ H D I h;refine wpAny_Delete (wpAny_deleteEach_cons (wpAny_delete_Subscript (thn (ho pins s σ H _ I h) λu s1 ⟨x,H1,I1,rx,q1⟩=>thn (hi pins s1 σ H1 _ I1 q1) λiv s2 ⟨y,H2,I2,ry,a,kvs,k,ex,e,ey,l,q2⟩=> ?_)));subst ex ey;obtain rfl:u=Value.ref a:=rx;exact X8 I2 e ry l λs3 I3=>wpAny_deleteEach_nil ⟨σ,_,I3,q2⟩
end
theorem Q0{P:Program}{w:World}{H:Hp}(h:Heap)(hb:sysModules<h.objs.size):ObjOk P w H (h.push {cls:= .type "dict",data:= .dict #[]}) h.objs.size (.dK []):=
 ⟨Qc5 _,Qe8.mpr (Ne.symm (ne_of_lt hb)),[],.nil,Heap.DictOf.new h⟩
theorem Qx{P:Program}{w:World}{H:Hp}(h:Heap)(hb:sysModules<h.objs.size):ObjOk P w H (h.push {cls:= .type "dict",data:= .dict #[]}) h.objs.size (.dT []):=
 ⟨Qc5 _,Qe8.mpr (Ne.symm (ne_of_lt hb)),[],.nil,_,#[],0,Qa5 _ rfl,⟨rfl,rfl,rfl⟩,rfl,rfl,nodup_nil⟩
def tDNewK:TE:=λ_ H Q=>∀p,H p=none->Q (.ref p) (upd H p (.dK []))
def tDNewT:TE:=λ_ H Q=>∀p,H p=none->Q (.ref p) (upd H p (.dT []))
section
variable{X:Cx}{pos:Pos}
theorem Io:PE X (.Dict [] [] pos) tDNewK:=λpins s σ H Q I h=>
 wpAny_Dict_empty ⟨.ref s.heap.objs.size,_,I.laid (a:=s.heap.objs.size) (o:= .dK []) (t':=s.toks) (λ_ _ q=>Lt _ q) (le_refl _) (Q0 s.heap I.big),rfl,h _ (I.hok.fresh (le_refl _))⟩
theorem Rk:PE X (.Dict [] [] pos) tDNewT:=λpins s σ H Q I h=>
 wpAny_Dict_empty ⟨.ref s.heap.objs.size,_,I.laid (a:=s.heap.objs.size) (o:= .dT []) (t':=s.toks) (λ_ _ q=>Lt _ q) (le_refl _) (Qx s.heap I.big),rfl,h _ (I.hok.fresh (le_refl _))⟩
end
structure M1(X:Cx)(o:Expr)(m:Str)(apos:Pos)(e:Expr)(cpos:Pos):Prop where
 base:attributeBase o m X.env (eval o X.env)=eval o X.env
 few:((backTo cpos (starEach [e] X.env)).all (λx=> !x.1) && (backToKw cpos (keywordEach [] X.env)).all (λx=>x.1.isSome)
  && decide (([e]:List Expr).length+([]:List Keyword).length+(if ([]:List Keyword).isEmpty then 0 else 1)<30))=true
 line:(apos.endLine==cpos.line)=true
 trees:backTo cpos (starEach [e] X.env)=[(false,eval e X.env)]
structure M2(X:Cx)(o:Expr)(m:Str)(apos:Pos)(e f:Expr)(cpos:Pos):Prop where
 base:attributeBase o m X.env (eval o X.env)=eval o X.env
 few:((backTo cpos (starEach [e,f] X.env)).all (λx=> !x.1) && (backToKw cpos (keywordEach [] X.env)).all (λx=>x.1.isSome)
  && decide (([e,f]:List Expr).length+([]:List Keyword).length+(if ([]:List Keyword).isEmpty then 0 else 1)<30))=true
 line:(apos.endLine==cpos.line)=true
 trees:backTo cpos (starEach [e,f] X.env)=[(false,eval e X.env),(false,eval f X.env)]
def IsD(H:Hp)(a:Addr):Prop:=(∃kvs,Rd H a (.dK kvs))\/∃kvs,Rd H a (.dT kvs)
theorem O6{X:Cx}{pins:List (Addr×Obj)}{σ:St}{H:Hp}{s:Shared}{a:Addr}(I:Inv X pins σ H s)(d:IsD H a):
  s.TypeIs (.ref a) "dict"/\(∀b,Value.ref a= .ref b->∃ob,s.heap.get? b=some ob/\ob.dict=none)/\(a==sysModules)=false:=by
 rcases d with⟨kvs,e⟩|⟨kvs,e⟩
 ·obtain⟨_,hd,vs,_,dd⟩:=Mv I.hok e;refine⟨dd.typeIs,λb q=> ?_,hd⟩;cases q;obtain⟨ob,_,_,h1,h2,_⟩:=dd;exact⟨ob,h1,h2.2.1⟩
 ·obtain⟨_,hd,xs,_,dd⟩:=On I.hok e;refine⟨dd.typeIs,λb q=> ?_,hd⟩;cases q;obtain⟨ob,_,_,h1,h2,_⟩:=dd;exact⟨ob,h1,h2.2.1⟩
section
variable{X:Cx}{pins:List (Addr×Obj)}{σ:St}{H:Hp}{s:Shared}{a:Addr}{y d:V}{u r:Value}{o:Option V}{A:Around}{E:Value->Shared->Prop}
theorem d_get2{Q:Value->Shared->Prop}(hu:A.units+1<cLine)(I:Inv X pins σ H s)(g:DGet H a y o)(ry:RelV y u)(rd:RelV d r)(h:∀w' s',Inv X pins σ H s'->RelV (o.getD d) w'->Q w' s'):
  wpAny (model X.prog X.w) A (call (.builtin "dict.get") [.ref a,u,r]) Q E s:=by
 rcases g with⟨kvs,k,e,ey,l⟩|⟨kvs,k,b,e,ey,eb,l⟩
 ·subst ey;obtain⟨z,hd,vs,rel,dd⟩:=Mv I.hok e;refine Qg6 slot_dict_get dd.typeIs PySem.F.entry_dict_get (PySem.F.args_dict_get_3 _ _ _) (meets_dict_get_default (Bg X.prog X.w) a (J8 ry) hd r) ⟨_,dd.mapOf,h _ _ (I.tok _) ?_⟩;rw[l];exact(rel.val k).getD rd
 ·subst ey;cases (show u=Value.ref b from ry);obtain⟨z,hd,xs,rel,dd⟩:=On I.hok e;refine Qg6 slot_dict_get dd.typeIs PySem.F.entry_dict_get (PySem.F.args_dict_get_3 _ _ _) (meetsH_dict_get_default (tupleKind (Bg X.prog X.w)) a b hd r) ⟨Qg1 hu,k,xs,Hc I.hok eb,dd,h _ _ (I.tok _) ?_⟩;rw[l];exact(rel.val k).getD rd
end
def tDGet2(td ty tx:TE):TE:=λσ H Q=>td σ H λx H1=>∃a,x= .ref a/\IsD H1 a/\ty σ H1 λy H2=>tx σ H2 λz H3=>∃o,DGet H3 a y o/\Q (o.getD z) H3
def tDPop1(td ty:TE):TE:=λσ H Q=>td σ H λx H1=>∃a,x= .ref a/\IsD H1 a/\ty σ H1 λy H2=>∃kvs k v,H2 a=some (.dK kvs)/\y=kV k/\Bj kvs k=some v/\Q v (upd H2 a (.dK (Em kvs k)))
section
variable{X:Cx}{o e f:Expr}{apos cpos:Pos}{td ty tx:TE}
theorem pe_dget2(hu:X.A.units+1<cLine)(ho:PE X o td)(he:PE X e ty)(hf:PE X f tx)(m:M2 X o "get" apos e f cpos):PE X (.Call (.Attribute o "get" apos) [e,f] [] cpos) (tDGet2 td ty tx):=by
 intro pins s σ H Q I h;refine wpAny_Call_method m.base m.few m.line plainAttrs_dict slot_dict_get PySem.F.type_dict_get (thn (ho pins s σ H _ I h) λu s1 ⟨x,H1,I1,rx,a,ex,d,q1⟩=> ?_);subst ex;obtain rfl:u=Value.ref a:=rx;obtain⟨t1,t2,_⟩:=O6 I1 d;refine⟨t1,t2,?_⟩;rw[m.trees];refine Calls.callWith_builtin rfl (Calls.evalArgs_plain (Calls.spliced_cons (thn (he pins s1 σ H1 _ I1 q1) λiv s2 ⟨y,H2,I2,ry,q2⟩=>
  Calls.spliced_cons (thn (hf pins s2 σ H2 _ I2 q2) λfv s3 ⟨z,H3,I3,rz,ov,g,q3⟩=>Calls.spliced_nil ?_))))
 exact d_get2 hu I3 g ry rz λw' s4 I4 rw'=>⟨_,H3,I4,rw',q3⟩
theorem Zb(ho:PE X o td)(he:PE X e ty)(m:M1 X o "pop" apos e cpos):PE X (.Call (.Attribute o "pop" apos) [e] [] cpos) (tDPop1 td ty):=by
 intro pins s σ H Q I h;refine wpAny_Call_method m.base m.few m.line plainAttrs_dict PySem.F.slot_dict_pop PySem.F.type_dict_pop (thn (ho pins s σ H _ I h) λu s1 ⟨x,H1,I1,rx,a,ex,d,q1⟩=> ?_);subst ex;obtain rfl:u=Value.ref a:=rx;obtain⟨t1,t2,_⟩:=O6 I1 d;refine⟨t1,t2,?_⟩;rw[m.trees];refine Calls.callWith_builtin rfl (Calls.evalArgs_plain (Calls.spliced_cons (thn (he pins s1 σ H1 _ I1 q1) λiv s2 ⟨y,H2,I2,ry,kvs,k,v,ea,ey,l,q2⟩=>Calls.spliced_nil ?_)));subst ey;exact d_pop I2 ea ry l (.inl rfl) λw' s3 I3 rw'=>⟨v,_,I3,rw',q2⟩
end
end L2
namespace Att
open PySem PySem.W PySem.Calls PyProof.Rows
theorem Ke{P:Params}{h:Heap}:∀(ns:List Int) (vs:List Value),WellAll P h vs (ns.map WData.int)->IntsAre vs ns:=by
 intro ns
 induction ns with
 |nil=>
  intro vs w;rw[map_nil] at w;cases w;exact .nil
 |cons n ns ih=>
  intro vs w;rw[Qb1] at w;cases w with
  |cons a b=>
   cases a;exact .cons _ _ (ih _ b)
theorem Yb{l:OpenLaw}{n:Nat}(hn:l.most=some n){P:Params}{h:Heap}{args:List WData}{vals:List Value}(hpre:l.row.toRowW.claim.pre args=true)(hwl:WellAll P h vals args):
  ∃a vs ns,vals=[Value.ref a]/\args=[WData.list (ns.map WData.int)]/\h.get? a=some {cls:= .type "list",data:= .seq vs.toArray}/\IntsAre vs ns/\ns.length<=n:=by
 have hsh:WShape.hasAll [] args [.list .int]=true:=(pre_splitW hpre).1;have hc:l.pre.holds [] {args:=args}=true:=(pre_splitW hpre).2;obtain⟨d,r,rfl,h1,h2⟩:=hasAllW_cons hsh;obtain rfl:=hasAllW_nil h2;obtain⟨xs,rfl,h3⟩:=hasW_list h1;obtain⟨ns,rfl⟩:=items_int h3;have hlen:ns.length<=n:=by
  unfold OpenLaw.pre at hc;have h4:(WTm.not (.lt (.lit (.int (n:Int))) (.len (.arg 0)))).holds [] {args:=[.list (ns.map .int)]}=true:=by
   have h4:=(holds_andW hc).1;rw[hn] at h4;exact h4
  have h5:=condW_of h4 (w_not (w_lt w_lit (w_len_list (w_arg rfl))));rw[If] at h5;refine le_of_not_lt λq=> ?_;have q':(n:Int)<((ns.length:Nat):Int):=by omega
  first
   |(rw[decide_eq_true q'] at h5;exact absurd h5 (by decide))
   |(simp at h5;omega)
 cases hwl with
 |cons w1 w2=>
  cases w2;cases w1 with
  |list ho hall=>exact⟨_,_,ns,rfl,rfl,ho,Ke ns _ hall,hlen⟩
theorem Wm(l:OpenLaw)(args:List WData):l.row.toRowW.claim.post args (.bool true) args=true:=
 postW_of (r:=l.row.toRowW) (X:=(true==true))
  (show WShape.has [] (.bool true) .bool=true by first|rfl|decide|simp[WShape.has,WShape.arms,WShape.armsAll])
  (show (WTm.eq .res (.lit (.bool true))).value [] {args:=args,res:=some (.bool true),after:=args}=some (.bool (true==true)) from w_eq_bool (w_res rfl) w_lit) rfl
theorem attach_call{l:OpenLaw}{n:Nat}{q:Program}{loose:List Str}{XP:(Str->Option Value)->Heap->Prop}{YP:World->Heap->Prop}{d:DefRec}(hn:l.most=some n)(hdf:d.params.defaults=[])(call:∀(w:World) (s₀ s₁:Shared) (mg mb:Str->Option Value) (fa:Addr) (o:Obj) (pm cd doc:Value) (a:Addr) (vs:List Value) (ns:List Int),
   Ground q loose [] XP w s₀ mg mb s₁.heap->YP w s₁.heap->
   s₁.heap.get? fa=some o->o.data= .func (docDef d.name d.params d.body d.scope pm cd doc)->s₁.heap.CodeRec cd d.name->mg d.name=some (.ref fa)->
   s₁.heap.get? a=some {cls:= .type "list",data:= .seq vs.toArray}->IntsAre vs ns->ns.length<=n->s₁.gens= #[]->
   codeAny (model l.prog w) callerA (.call (.ref fa) ⟨[.ref a],[]⟩) (λr s'=>r= .ok (.ret (.bool true))/\OldK s₁.heap s'.heap/\s'.os=s₁.os/\AllBare s'.gens) s₁):
  WalkO q loose XP YP l.row.toRowW d [] (λf vs=>PySem.call f vs):=by
 intro w s₀ s₁ mg mb G Y fa o pm cd doc dV kV ho hd hcd hD hmg hg args vals as hpre hlay hrd hwl hlo;obtain rfl:dV= .none:=Dflts.none hD hdf;obtain rfl:kV= .none:=Dflts.noKw hD;obtain⟨a,vs,ns,rfl,rfl,hobj,hints,hlen⟩:=Yb hn hpre hwl;refine enter_call (Qg5 (call w s₀ s₁ mg mb fa o pm cd doc a vs ns G Y ho (fd_plain hd) hcd hmg hobj hints hlen hg) λr s' hq=> ?_);obtain⟨rfl,h2,h3,h4⟩:=hq;exact⟨.inl ⟨.bool true,.bool true,[],rfl,λ_=>rfl,.bool true,Wm l _,λ_=>⟨Pairwise.nil,λ_ hm=>(nomatch hm)⟩⟩,h2,h3,h4⟩
end Att
namespace L2
open PySem PySem.Spec PyProof.Rows
theorem Nx:∀{vs:List Value} {ns:List Int},IntsAre vs ns->Vals (ns.map V.int) vs
 |_,_,.nil=> .nil
 |_,_,.cons n t h=> .cons ⟨t,rfl⟩ (Nx h)
def Only(H:Hp):Prop:=∀b,H b=none\/∃o xs,H b=some (.frz o (.lst xs))
theorem Zf{P:Program}{w:World}{K:Frag}{mg mb:Str->Option Value}{CX:CXT}{k:Nat}{fa a:Addr}{fd:FuncData}{x:Str}{sp:Sp}{s₁:Shared}{vs:List Value}{ns:List Int}(KX:K.In s₁.heap)(hns:s₁.heap.Ns mainGlobals mg)(hb:s₁.heap.Ns builtinsNs mb)(hbb:∀x:Str,x≠"__name__"->mb x=bootBuiltins x)(hlim:s₁.heap.NoLimit)(hg:s₁.gens= #[])(ha:s₁.heap.get? a=some {cls:= .type "list",data:= .seq vs.toArray})(hi:IntsAre vs ns)(hl:ns.length<=sizeLine)(hr:Room k callerA)(F:∀base:Heap,K.In base->base.Ns mainGlobals mg->FnOk P w K mg base CX k fa fd [x] sp)(hbind:∀(s:Shared) (u:Value),BindsTo s fd ⟨[u],[]⟩ [(x,u)])(hsp:∀H:Hp,Only H->SqL K H a (ns.map V.int)->sp [.ref a] H (λv _=>v= .bl true) λ_ _ _=>False)(hCX:∀H e s',CX [] H s₁ (λ_ _ _=>False) e s'->False):
  codeAny (model P w) callerA (.call (.ref fa) ⟨[.ref a],[]⟩) (λr s'=>r= .ok (.ret (.bool true))/\OldK s₁.heap s'.heap/\s'.os=s₁.os/\AllBare s'.gens) s₁:=by
 have rv:=Nx hi;have lenV:=hi.length;have core:∀H:Hp,Only H->SqL K H a (ns.map V.int)->HOk P w H s₁.heap->(∀b,H b≠none->b=a)->(H a≠none->K.lookup a=none)->
   codeAny (model P w) callerA (.call (.ref fa) ⟨[.ref a],[]⟩) (λr s'=>r= .ok (.ret (.bool true))/\OldK s₁.heap s'.heap/\s'.os=s₁.os/\AllBare s'.gens) s₁:=by
  intro H hO hS hok hA hK;have base_of:∀{b:Addr} {o:Obj},s₁.heap.get? b=some o->H b=none->(O0 s₁.heap H).get? b=some o:=λe n=>hidT_get e n;have noA:∀{b:Addr} {o:Obj} {es:Array DictEntry} {ep:Nat},s₁.heap.get? b=some o->o.data= .dict es ep->H b=none:=λ{b o es ep} e d=>by
   cases q:H b with
   |none=>rfl
   |some u=>
    have e':b=a:=hA b (by rw[q];simp);subst e';rw[ha] at e;cases e;have d':Data.seq vs.toArray _=Data.dict es ep:=d;cases d'
  have nsK:∀{b:Addr} {m:Str->Option Value},s₁.heap.Ns b m->(O0 s₁.heap H).Ns b m:=λ{b m} ⟨o,es,ep,e,d,r⟩=>⟨o,es,ep,base_of e (noA e d),d,r⟩
  have hKb:K.In (O0 s₁.heap H):=λb o e=>base_of (KX b o e) (by
   cases q:H b with
   |none=>rfl
   |some u=>
    have e':b=a:=hA b (by rw[q];simp);subst e';rw[hK (by rw[q];simp)] at e;cases e)
  have hM:Mod K mg (O0 s₁.heap H):=⟨hKb,nsK hns,⟨mb,nsK hb,hbb⟩,let ⟨mc,h1,h2⟩:=hlim;⟨mc,nsK h1,h2⟩⟩
  have e0:Env0 P w K mg (O0 s₁.heap H) callerA [] s₁ H:=⟨rfl,hM,λb o e=>of_hidT e,le_of_eq (Yf _ _),trivial,λb hb=>absurd (show b∈([]:List Addr) from hb) (by simp),hok,.of_eq hg⟩
  refine Qg5 ((F _ hKb (nsK hns)).run callerA [] s₁ H ⟨[.ref a],[]⟩ [.ref a] [.ref a] _ _ hr e0 (hbind s₁ (.ref a)) (.cons rfl .nil) (hsp H hO hS)) λr s' h=> ?_;cases r with
  |error e=>exact(hCX H e s' h).elim
  |ok fl=>
   cases fl with
   |next=>exact False.elim h
   |brk=>exact False.elim h
   |cont=>exact False.elim h
   |ret u=>
    obtain⟨v,H',os,bare,un,hok',r',q⟩:=h;have q':v= .bl true:=q;subst q';obtain rfl:u=Value.bool true:=r';refine⟨rfl,OldK.of_keep λb o e=> ?_,os,bare⟩;cases q:H b with
    |none=>exact un.keep b o e q (by intro z;exact absurd (show b∈([]:List Addr) from z) (by simp)) (by simp)
    |some u=>
     rcases hO b with z|⟨ob,xs,z⟩
     ·rw[q] at z;cases z
     ·have z2:=un.frzs b ob _ z;obtain⟨e1,_⟩:=hok b _ z;obtain⟨e2,_⟩:=hok' b _ z2;rw[e] at e1;cases e1;exact e2
 cases hk:K.lookup a with
 |some o=>
  have e:=KX a o hk;rw[ha] at e;cases e;refine core (λ_=>none) (λ_=> .inl rfl) (.inr ⟨_,vs.toArray,_,hk,rfl,rfl,rfl,by rw[size_toArray,lenV];exact hl,by simpa using rv⟩) (λb u z=>by have z':(none:Option HO)=some u:=z;cases z') (λb z=>absurd rfl z) λz=>absurd rfl z
 |none=>
  refine core (λb=>if b=a then some (.frz {cls:= .type "list",data:= .seq vs.toArray} (.lst (ns.map V.int))) else none) (λb=> ?_) (.inl (.inr ⟨{cls:= .type "list",data:= .seq vs.toArray},Qa2 rfl⟩)) (λb u z=> ?_) (λb z=> ?_) λ_=>hk
  ·by_cases hb:b=a
   ·exact .inr ⟨_,_,Qa2 hb⟩
   ·exact .inl (Qa1 hb)
  ·by_cases hb:b=a
   ·have z':=(Qa2 hb).symm.trans z;cases z';subst hb;exact⟨ha,by rw[If];exact hl,vs,_,rv,ha⟩
   ·have z':=(Qa1 hb).symm.trans z;cases z'
  ·by_cases hb:b=a
   ·exact hb
   ·exact absurd (Qa1 hb) z
theorem walk_of{l:PySem.W.OpenLaw}{n k:Nat}{q:Program}{loose:List Str}{XP:(Str->Option Value)->Heap->Prop}{YP:World->Heap->Prop}{d:DefRec}{K:Params->Frag}{CX:World->CXT}{sp:World->Sp}{x:Str}(hn:l.most=some n)(hn2:n<=sizeLine)(hdf:d.params.defaults=[])(hr:Room k callerA)(hY:∀(w:World) (h:Heap),YP w h->(K w.params).In h)(F:∀(w:World) (mg:Str->Option Value) (fa:Addr) (h:Heap),(K w.params).In h->h.Ns mainGlobals mg->mg d.name=some (.ref fa)->
   ∃fd:FuncData,(∀(s:Shared) (u:Value),BindsTo s fd ⟨[u],[]⟩ [(x,u)])/\
    ∀base:Heap,(K w.params).In base->base.Ns mainGlobals mg->FnOk l.prog w (K w.params) mg base (CX w) k fa fd [x] (sp w))(hsp:∀(w:World) (H:Hp) (a:Addr) (ns:List Int),ns.length<=n->Only H->SqL (K w.params) H a (ns.map V.int)->sp w [.ref a] H (λv _=>v= .bl true) λ_ _ _=>False)(hCX:∀(w:World) (H:Hp) (s:Shared) (e:Value) (s':Shared),CX w [] H s (λ_ _ _=>False) e s'->False):
  PySem.W.WalkO q loose XP YP l.row.toRowW d [] (λf vs=>PySem.call f vs):=by
 refine Att.attach_call hn hdf λw s₀ s₁ mg mb fa o pm cd doc a vs ns G Y ho hd hcd hmg hobj hints hlen hg=> ?_;have KX:=hY w _ Y;obtain⟨fd,hb,hF⟩:=F w mg fa _ KX G.T.g hmg;exact Zf KX G.T.g G.T.b G.T.builtins G.T.nolimit hg hobj hints (le_trans hlen hn2) hr hF hb (λH hO hS=>hsp w H a ns hlen hO hS) λH e s'=>hCX w H s₁ e s'
end L2
namespace L2
open PySem PySem.Spec PyProof.Rows
def Cf(s:Stmt):Arguments:=match s with
 | .FunctionDef _ a _ _ _ _ _ _ _ _=>a
 |_=>{posonlyargs:=[],args:=[],vararg:=none,kwonlyargs:=[],kw_defaults:=[],kwarg:=none,defaults:=[]}
def By(s:Stmt):List Stmt:=match s with
 | .FunctionDef _ _ b _ _ _ _ _ _ _=>b
 |_=>[]
def Ah(s:Stmt):Scope:=match s with
 | .FunctionDef _ _ _ _ _ _ sc _ _ _=>sc
 |_=>{kind:= .function,names:=[],isGenerator:=false,isCoroutine:=false}
abbrev CX0:CXT:=λ_ _ _ _ _ _=>False
abbrev E0:XK:=λ_ _ _=>False
theorem C7{X:Cx}:Hk CX0 X E0:=λ_ _ _ _ _ _ _ h=>h.elim
structure Fun(K:Frag)(x qual:Str)(st:Stmt)(f:Addr)(fd:FuncData):Prop where
 ex:∃(oc:Value) (od:Option Addr) (kV doc pm:Value) (an:Option Addr) (cdv ct:Value) (osl:Array (Option Value)),
  fd=PySem.W.fnOf x qual (Cf st) (By st) (Ah st) .none kV doc pm an cdv ct/\K.lookup f=some ⟨oc,od,.func fd,osl⟩/\PySem.W.codeIn K cdv qual=true
 kp:keepIn K (.ref f)=true
section
variable{P:Program}{w:World}{K:Frag}{mg:Str->Option Value}{base:Heap}
theorem Fun.ok{x qual:Str}{st:Stmt}{f:Addr}{fd:FuncData}{N ps:List Str}{k:Nat}{sp:Sp}(F:Fun K x qual st f fd)(S:Av N ps (Ah st))(len:∀vs H Q E,sp vs H Q E->vs.length=ps.length)(hbody:∀(cdv:Value) (A:Around) (outer:List Env) (s:Shared) (H:Hp) (vs:List V) (Q:VK) (E:XK),Room k (A.deeper (envOfC qual (Ah st) s.heap.objs.size f cdv))->sp vs H Q E->
   ∃t,PSs (Wt CX0 P w K mg base N qual (Ah st) f cdv A outer s H E).nox (By st) t/\t {nx:=λ_ H'=>Q .non H',rt:=Q} (J3 N vs) H):FnOk P w K mg base CX0 (k+1) f fd ps sp:=by
 obtain⟨oc,od,kV,doc,pm,an,cdv,ct,osl,rfl,lk,hcd⟩:=F.ex;refine fn_of lk hcd S len λA outer s H vs Q E hr hsp=> ?_;obtain⟨t,h,q⟩:=hbody cdv A outer s H vs Q E hr hsp;exact⟨t,h.nox,q⟩
theorem Fun.binds{x qual:Str}{st:Stmt}{f:Addr}{fd:FuncData}{ps:List Str}(F:Fun K x qual st f fd)(h:∀(kV doc pm:Value) (an:Option Addr) (cdv ct:Value) (us:List Value),us.length=ps.length->bindArgs (PySem.W.fnOf x qual (Cf st) (By st) (Ah st) .none kV doc pm an cdv ct) ⟨us,[]⟩=pure (ps.zip us)):Binds K fd ps []:=by
 obtain⟨oc,od,kV,doc,pm,an,cdv,ct,osl,rfl,lk,hcd⟩:=F.ex;exact .all (h kV doc pm an cdv ct)
theorem Ev{x qual:Str}{st:Stmt}{f:Addr}{oc:Value}{od an:Option Addr}{osl:Array (Option Value)}{kV doc pm cdv ct:Value}(l:K.lookup f=some ⟨oc,od,.func (PySem.W.fnOf x qual (Cf st) (By st) (Ah st) .none kV doc pm an cdv ct),osl⟩)(c:PySem.W.codeIn K cdv qual=true)(k:keepIn K (.ref f)=true):Fun K x qual st f (PySem.W.fnOf x qual (Cf st) (By st) (Ah st) .none kV doc pm an cdv ct):=⟨⟨oc,od,kV,doc,pm,an,cdv,ct,osl,rfl,l,c⟩,k⟩
end
theorem Dk{A:Around}{k:Nat}(hr:Room k A):A.units+1<cLine:=lt_of_le_of_lt (Nat.add_le_add_left (by decide:1<=64) _) hr.units
theorem Ap{n:Nat}(h:n<=1000):n<sizeLine:=lt_of_le_of_lt h (by decide)
section
variable{X:Cx}
theorem pv(i:Nat){x:Str}{pos:Pos}(hN:X.N[i]? =some x:=by rfl)(hv:Vis X.env.scope x:=by first|exact Or.inl rfl|exact Or.inr (Or.inl rfl)|exact Or.inr (Or.inr rfl))(hd:(x==("__debug__":Str))=false:=by decide)(hcd:(x==("__classdict__":Str))=false:=by decide):PE X (.Name x pos) (tVar i):=pe_var hN hv hd hcd
theorem Yq:Dv X (.builtin "len") (λxs H Q=>∃a kvs,xs=[V.ref a]/\H a=some (.dK kvs)/\Q (.int kvs.length) H):=by
 intro pins s σ H xs us Q I r h;obtain⟨a,kvs,rfl,ha,q⟩:=h;obtain⟨u,rfl,ru⟩:=Dg r;cases ru;exact d_len I (.inl ha) λt s' I'=>⟨.int kvs.length,H,I',⟨t,rfl⟩,q⟩
end
theorem C4{A B:Prop}(h:B):if false=true then A else B:=by
 rw[Qa1 Bool.false_ne_true];exact h
theorem Ew{A B:Prop}(h:A):if true=true then A else B:=by
 rw[Qa2 rfl];exact h
theorem B7{c A B:Prop}[Decidable c](h1:c->A)(h2:¬c->B):if c then A else B:=by
 by_cases h:c
 ·rw[Qa2 h];exact h1 h
 ·rw[Qa1 h];exact h2 h
def Same(H H':Hp):Prop:=∀b o,H b=some o->H' b=some o
theorem Same.trans{H H1 H2:Hp}(a:Same H H1)(b:Same H1 H2):Same H H2:=λc o h=>b c o (a c o h)
theorem Same.free{H H':Hp}(e:Same H H'){l:Addr}(h:H' l=Option.none):H l=Option.none:=by
 cases q:H l with
 |none=>rfl
 |some o=>
  rw[e l o q] at h;cases h
def Dc(env:Env):List (Str×NameKind)->List (Str×Addr)->List (Str×Addr)
 |[],cs=>cs
 |(n,k)::r,cs=>Dc env r (if k= .free then (n,(env.cells.lookup n).getD 0)::cs else cs)
theorem Nt{env:Env}:∀(ns:List (Str×NameKind)) (cs:List (Str×Addr)),(∀p∈ns,p.2= .free->(env.cells.lookup p.1).isSome=true)->
  (forIn ns cs λ(x:Str×NameKind) r=>(do
   let mut cs:=r
   if x.2== .free then cs:=(x.1,<-cellOf env x.1)::cs
   pure (ForInStep.yield cs):Sem (ForInStep (List (Str×Addr)))))=pure (Dc env ns cs)
 |[],cs,_=>rfl
 |(n,k)::r,cs,h=>by
  have ih:=λcs=>Nt (env:=env) r cs λp hp=>h p (Qa8 _ hp);rw[forIn_cons];by_cases hk:k= .free
  ·subst hk;have q:=h (n,.free) Qa9 rfl;obtain⟨c,hc⟩:=Qe6.mp q;have e:cellOf env n=pure c:=by unfold cellOf;rw[hc]
   simp only[e];simp[Dc,hc,ih];have:=ih ((n,c)::cs);simpa using this
  ·have hb:(k==NameKind.free)=false:=by simpa using hk
   simp[Dc,hk];have:=ih cs;simpa using this
theorem Iw{scope:Scope}{env:Env}(h:∀p∈scope.names,p.2= .free->(env.cells.lookup p.1).isSome=true):closureFor scope env=pure (Dc env scope.names []):=by
 have q:=Nt (env:=env) scope.names [] h;unfold closureFor;simp at q ⊢;exact q
theorem Nc{env:Env}:∀(ns:List (Str×NameKind)) (cs:List (Str×Addr)),(∀p∈ns,p.2= .free->(env.cells.lookup p.1).isSome=true)->(∀y c,cs.lookup y=some c->env.cells.lookup y=some c)->
  ∀y c,(Dc env ns cs).lookup y=some c->env.cells.lookup y=some c
 |[],cs,_,h,y,c,e=>h y c e
 |(n,k)::r,cs,h,hc,y,c,e=>by
  unfold Dc at e;refine Nc r _ (λp hp=>h p (Qa8 _ hp)) ?_ y c e;intro y c e;by_cases hk:k= .free
  ·subst hk;rw[Qa2 rfl] at e;obtain⟨d,hd⟩:=Qe6.mp (h (n,.free) Qa9 rfl);rw[List.lookup_cons] at e;cases q:y==n with
   |true=>
    rw[q] at e;have:y=n:=by simpa using q
    subst this;rw[hd] at e ⊢;exact e
   |false=>
    rw[q] at e;exact hc y c e
  ·rw[Qa1 hk] at e;exact hc y c e
theorem J1{env:Env}{y:Str}:∀(ns:List (Str×NameKind)) (cs:List (Str×Addr)),(cs.lookup y).isSome=true->((Dc env ns cs).lookup y).isSome=true
 |[],cs,h=>h
 |(n,k)::r,cs,h=>by
  unfold Dc;refine J1 r _ ?_;split
  ·rw[List.lookup_cons];split
   ·rfl
   ·exact h
  ·exact h
theorem He{env:Env}{y:Str}:∀(ns:List (Str×NameKind)) (cs:List (Str×Addr)),(y,NameKind.free)∈ns->((Dc env ns cs).lookup y).isSome=true
 |(n,k)::r,cs,h=>by
  unfold Dc;rcases Qa6.mp h with e|e
  ·cases e;refine J1 r _ ?_;rw[Qa2 rfl,List.lookup_cons];simp
  ·exact He r _ e
def Ct(X:Cx)(scope:Scope)(N:List Str)(C:Addr)(s:Shared)(H:Hp)(ex:List Addr)(pins:List (Addr×Obj)):Cx where
 prog:=X.prog
 w:=X.w
 K:=X.K
 mg:=X.mg
 base:=X.base
 A:=X.A
 N:=N
 s₀:=s
 H₀:=H
 env:=compEnvC scope (Dc X.env scope.names []) C X.env
 outer:=X.stack
 stack:=X.stack
 ex:=ex
 fn:=λ_=>false
 calm:=X.calm
 pn:=X.pn++pins
 xe:=λ_ _=>False
def cst(nT:Nat)(js:List Nat)(σ:St):St:=replicate nT none++js.map λj=>(σ[j]?).join
structure Je(X:Cx)(scope:Scope)(T F:List Str)(js:List Nat):Prop where
 kind:scope.kind= .function
 nocell:∀y∈scope.names,y.2≠ .cell
 names:∀x∈scope.names,x.2= .local->scope.names.lookup x.1=some .local
 free:∀x∈scope.names,x.2= .free->X.env.kindOf x.1=some .cell
 loc:∀y∈T,(relabel scope X.env).names.lookup y=some .local
 cel:∀y∈F,(relabel scope X.env).names.lookup y=some .cell/\X.env.kindOf y=some .cell/\(y,NameKind.free)∈scope.names
 all:∀x∈(relabel scope X.env).names,(x.2= .cell\/x.2= .free)->(x.1,NameKind.free)∈scope.names
 js:js.map (λj=>X.N[j]?)=F.map some
section
variable{X:Cx}{scope:Scope}{T F:List Str}{js:List Nat}
theorem Y6{pins:List (Addr×Obj)}{σ:St}{H:Hp}{s:Shared}{h1:Heap}{tk:Nat}{fp:List Addr}{m:Str->Option Value}(S:Je X scope T F js)(I:Inv X pins σ H s)(hn:h1.Ns s.heap.objs.size m)(kk:∀b o,s.heap.get? b=some o->h1.get? b=some o)(hf:∀b∈fp,FpOk X pins H b/\∃o,s.heap.get? b=some o/\∀v,o.data≠ .cell v):
  Inv (Ct X scope (T++F) s.heap.objs.size s H fp pins) [] (cst T.length js σ) H {s with heap:=h1,toks:=tk}:=by
 have sub:=Nc (env:=X.env) scope.names [] (λp hp hk=>by
  obtain⟨c,e⟩:=I.ok.has p.1 (.inl (S.free p hp hk));rw[e];rfl) (λy c e=>by simp at e)
 have ltC:∀y c,X.env.cells.lookup y=some c->c<s.heap.objs.size:=λy c e=>by
  obtain⟨v,z⟩:=I.cell y c e;exact z.lt
 refine⟨⟨I.ok.mod,?_,I.ok.glob,I.ok.blt,le_refl _,λx y c e1 e2=>I.ok.inj x y c (sub x c e1) (sub y c e2),λx hx=> ?_,λx c hx=>absurd hx Bool.false_ne_true,I.ok.hd,I.ok.frames,.inl rfl,λb hb=> ?_,I.bs,?_,λb o e hb=> ?_,λb hb hs=> ?_,I.stack,I.stkFree⟩,
  rfl,I.bare,Un.kept kk,⟨m,hn,λi x v e1 e2 e3=> ?_⟩,λx c e=> ?_,I.hok.fresh (le_refl _),λx c e=>I.freeC x c (sub x c e),λp hp=> ?_,I.hok.kept kk,?_⟩
 ·show (relabel scope X.env).kind= .function;exact S.kind
 ·have hx:(relabel scope X.env).names.lookup x=some .cell\/(relabel scope X.env).names.lookup x=some .free:=hx;have hm:(x,NameKind.free)∈scope.names:=by
   rcases hx with h|h
   ·exact S.all _ (PySem.mem_of_lookup h) (.inl rfl)
   ·exact S.all _ (PySem.mem_of_lookup h) (.inr rfl)
  exact Qe6.mp (He scope.names [] hm)
 ·obtain⟨⟨f0,f1,f2,f3,f4,f5⟩,o,ho,_⟩:=hf b hb;exact⟨ne_of_lt (Qa7 ho),λx c e=>f4 x c (sub x c e)⟩
 ·exact le_trans I.ok.bsz I.sz
 ·obtain⟨⟨f0,f1,f2,f3,f4,f5⟩,_⟩:=hf b hb;rcases f3 with z|z
  ·exact I.ok.noex b o e z
  ·exact absurd (lt_of_lt_of_le (Qa7 e) (le_trans I.ok.bsz z)) (lt_irrefl _)
 ·obtain⟨⟨f0,f1,f2,f3,f4,f5⟩,_⟩:=hf b hb;rcases Qa6.mp (I.stkSub b hs) with z|z
  ·exact f1 z
  ·exact f2 z
 ·-- a name's value
  have hi:T.length<=i:=by
   by_cases hi:i<T.length
   ·unfold cst at e2;rw[getElem?_append_left (by simpa using hi),getElem?_replicate] at e2;split at e2<;> cases e2
   ·exact not_lt.mp (by assumption)
  obtain⟨k,rfl⟩:∃k,i=T.length+k:=⟨i - T.length,by omega⟩
  have e1:(T++F)[T.length+k]? =some x:=e1;rw[getElem?_append_right (by assumption)] at e1;have e1:F[k]? =some x:=by simpa using e1
  unfold cst at e2;rw[getElem?_append_right (by simp)] at e2;have e2:(js.map λj=>(σ[j]?).join)[k]? =some (some v):=by simpa using e2
  rw[getElem?_map] at e2;cases ej:js[k]? with
  |none=>rw[ej] at e2;cases e2
  |some j=>
   rw[ej] at e2;have e2:(σ[j]?).join=some v:=by simpa using e2
   have e3':σ[j]? =some (some v):=by
    cases q:σ[j]? with
    |none=>rw[q] at e2;cases e2
    |some z=>rw[q] at e2;cases z with
     |none=>cases e2
     |some z=>simp at e2;rw[e2]
   have eN:X.N[j]? =some x:=by
    have q:=Qc7 (λl=>l[k]?) S.js;simp only[getElem?_map,ej,e1] at q;simpa using q
   obtain⟨c1,c2,c3⟩:=S.cel x (mem_of_getElem? e1);obtain⟨m0,hn0,hl⟩:=I.loc;obtain⟨u,ru,lk⟩:=hl j x v eN e3' (.inr (.inl c2));refine⟨u,ru,?_⟩;rcases lk with⟨z,_⟩|⟨_,c,ec,hc⟩
   ·rw[c2] at z;cases z
   ·obtain⟨c',ec'⟩:=Qe6.mp (He (env:=X.env) scope.names [] c3);have:=sub x c' ec';rw[ec] at this;cases this;refine .inr ⟨.inl c1,c,ec',?_⟩;obtain⟨o,ho,hd⟩:=hc;exact⟨o,kk _ _ ho,hd⟩
 ·obtain⟨v,o,ho,hd⟩:=I.cell x c (sub x c e);exact⟨v,o,kk _ _ ho,hd⟩
 ·have hp:p∈(X.pn++pins)++[]:=hp;rw[Qc9] at hp;obtain⟨e,n,ne,nf,d⟩:=I.pin p hp;refine⟨kk _ _ e,n,ne_of_lt (Qa7 e),λz=> ?_,d⟩;rcases Qa6.mp (I.stkSub p.1 z) with q|q
  ·exact ne q
  ·exact nf q
 ·unfold cst;show _=(T++F).length;have q:=Qc7 length S.js;simp at q;simp[q]
def PIf(X:Cx)(ifs:List Expr)(t:TT):Prop:=
 ∀(pins:List (Addr×Obj)) (s:Shared) (σ:St) (H:Hp) (Q:Bool->Hp->Prop),Inv X pins σ H s->t σ H Q->
  wpAny (model X.prog X.w) X.A (forIn ifs true λc r=>if r=true then do let ok <-isTrue c X.env (eval c X.env);pure (ForInStep.yield ok) else pure (ForInStep.yield r)) (TP X pins σ Q) X.xe s
def tYes:TT:=λ_ H Q=>Q true H
theorem Ce:PIf X [] tYes:=λpins s σ H Q I h=>wpAny_tests_nil ⟨H,I,h⟩
theorem Ep{c:Expr}{t:TT}(h:PT X c t):PIf X [c] t:=λpins s σ H Q I hw=>wpAny_tests_one (h pins s σ H Q I hw)
def Mw(g:TG)(ti:TT)(te:TE)(D:Addr)(x:V)(σ:St)(ys:List V)(H:Hp)(N:St->List V->Hp->Prop):Prop:=
 g x σ H λσ2 H2=>ti σ2 H2 λb H3=>if b=true then te σ2 H3 λy H4=>H4 D=some (.lst ys)/\ys.length<sizeLine/\N σ2 (ys++[y]) (upd H4 D (.lst (ys++[y]))) else N σ2 ys H3
def cgo(J:It)(g:TG)(ti:TT)(te:TE)(D:Addr)(σ:St)(H:Hp)(Q:VK):Prop:=
 ∃W:Nat->Nat->St->List V->Hp->Prop,(∃m,W 0 m σ [] (upd H D (.lst [])))/\∀i m σ ys H,W i m σ ys H->H D=some (.lst ys)/\
  ((J.stop i H/\Q (.ref D) H)\/(J.go i H/\∃N:St->List V->Hp->Prop,(∀σ' ys' H',N σ' ys' H'->∃m',m'<m/\W (i+1) m' σ' ys' H')/\∀x H',J.yld i H x H'->Mw g ti te D x σ ys H' N))
def tComp(wi:TI)(g:TG)(ti:TT)(te:TE)(nT:Nat)(js:List Nat):TE:=λσ H Q=>wi σ H λJ H1=>∀D,H1 D=none->cgo J g ti te D (cst nT js σ) H1 Q
theorem Zk{pins:List (Addr×Obj)}{σ σ':St}{H H':Hp}{s s':Shared}{h':Heap}{N:List Str}{fp:List Addr}(I:Inv X pins σ H s)(hf:∀b∈fp,FpOk X pins H b)(J:Inv (Ct X scope N s.heap.objs.size s H fp pins) [] σ' H' s')(sb:SameBut s.heap.objs.size s'.heap h'):Inv X pins σ H' {s' with heap:=h'}:=by
 have ne:∀b o,s.heap.get? b=some o->b≠s.heap.objs.size:=λb o e=>ne_of_lt (Qa7 e);have u:=J.base;have u':Un (frs X.stack) fp H H' s.heap h':=
  ⟨λb o e n h1 h2=>sb.extBut b o (ne b o e) (u.keep b o e n h1 h2),λb o e n h1 h2=>by
   obtain⟨sl,q⟩:=u.slot b o e n h1 h2;exact⟨sl,sb.extBut b _ (ne b o e) q⟩,u.free,λb o e h=>by
   obtain⟨o',q⟩:=u.there b o e h;exact⟨o',sb.extBut b _ (ne b o e) q⟩,u.tups,u.frzs,u.tbls⟩
 have nC:H' s.heap.objs.size=none:=J.free;have hok:HOk X.prog X.w H' h':=λb o e=>by
  refine(J.hok b o e).stay (λc v hc q=>sb.extBut c v ?_ q) (λ_ q=>q) λ_ _ q=>q;rcases hc with z|z
  ·rw[z];intro z';rw[z',nC] at e;cases e
  ·intro z';rw[z',nC] at z;cases z
 exact I.call' (s':={s' with heap:=h'}) J.os u' hok J.bare λb hb=>by
  obtain⟨f0,f1,f2,f3,f4,f5⟩:=hf b hb;exact⟨f3,f1,f4,f5⟩
theorem Vx{tg elt iter:Expr}{ifs:List Expr}{pos:Pos}{g:TG}{ti:TT}{te:TE}{wi:TI}{pins:List (Addr×Obj)}{σ:St}{H:Hp}{s:Shared}{use:Option (Value->Sem Unit)}{QQ:Value->Shared->Prop}{Q:VK}(S:Je X scope T F js)(hc:X.calm=true)(hi:PI X tg iter wi)(hg:∀C s H ex pins,PG (Ct X scope (T++F) C s H ex pins) tg g)(hif:∀C s H ex pins,PIf (Ct X scope (T++F) C s H ex pins) ifs ti)(he:∀C s H ex pins,PE (Ct X scope (T++F) C s H ex pins) elt te)(I:Inv X pins σ H s)(h:tComp wi g ti te T.length js σ H Q)(fin:∀(D C:Addr) (s':Shared) (H':Hp) (m:Str->Option Value),s'.heap.Ns C m->Q (.ref D) H'->FpOk X pins H' C->(∀h',SameBut C s'.heap h'->Inv X pins σ H' {s' with heap:=h'})->
   compPost (model X.prog X.w) X.A X.xe use QQ (.ref D) C (.ok .next) s')(hs:∀x,foldedSetIterable iter X.env x=pure x):
  wpAny (model X.prog X.w) X.A (comprehension (.ListComp elt [⟨tg,iter,ifs,0⟩] scope pos) scope X.env (firstIterPos [⟨tg,iter,ifs,0⟩] pos) (newList []) false (eval iter X.env) use) QQ X.xe s:=by
 refine wpAny_comprehension_free (use:=use) rfl hs (Iw λp hp hk=> ?_) S.kind S.names (thn (hi pins s σ H _ I h) λv s1 h1=>thn h1 λitv s2 h2=> ?_)
 ·obtain⟨c,e⟩:=I.ok.has p.1 (.inl (S.free p hp hk));rw[e];rfl
 obtain⟨it,fp,tn,J,H2,rfl,I2,Tn,st2,f2,h2⟩:=h2;obtain⟨W,⟨m0,w0⟩,turn⟩:=h2 s2.heap.objs.size I2.fresh;refine Qc0 (wpAny_newFunctionEnv S.nocell (by intro y hy;simp at hy) (λh₁ hns₁ hsb₁=> ?_) S.kind);have I3:=I2.lnew (t':=s2.toks) (ys:=[]) (its:=[]) Paired.nil (Qc5 _);generalize hs3:({s2 with heap:=s2.heap.push {cls:= .type "list",data:= .seq ([]:List Value).toArray},toks:=s2.toks}:Shared)=s3 at I3;have hf3:∀b∈fp,FpOk X pins (upd H2 s2.heap.objs.size (.lst [])) b/\∃o,s3.heap.get? b=some o/\∀v,o.data≠ .cell v:=λb hb=>by
  obtain⟨f0,fr⟩:=f2 b hb;obtain⟨o,e,d⟩:=Tn.obj _ _ st2 b hb;refine⟨⟨by rw[Ai (ne_of_lt (Qa7 e))];exact f0,fr⟩,o,?_,d⟩;rw[<-hs3];exact Lt _ e
 have e3:s3.heap=s2.heap.push {cls:= .type "list",data:= .seq ([]:List Value).toArray}:=by rw[<-hs3]
 have kk:∀b o,s3.heap.get? b=some o->h₁.get? b=some o:=λb o e=>by
  rw[e3] at e;exact hsb₁.extBut b o (ne_of_lt (Qa7 e)) (Lt _ e)
 have hns:h₁.Ns s3.heap.objs.size (λx=>([]:List (Str×Value)).reverse.lookup x):=by rw[e3];exact hns₁
 have I4:=Y6 (tk:=s3.toks+([]:List (Str×Value)).length) S I3 hns kk hf3;have stat:∀{H':Hp} {pl:List (Addr×Obj)},(∀p∈pl,∀b∈fp,p.1≠b)->(∀b∈fp,H' b=none)->∀b∈fp,FpOk (Ct X scope (T++F) s3.heap.objs.size s3 (upd H2 s2.heap.objs.size (.lst [])) fp pins) pl H' b:=λ{H' pl} hp hn b hb=>by
  obtain⟨⟨f0,f1,f2,f3,f4,f5⟩,o,e,d⟩:=hf3 b hb;obtain⟨x1,x2⟩:=I4.ok.exf b hb;refine⟨hn b hb,x1,I4.ok.exfs b hb,.inl hb,x2,λp hq=> ?_⟩;rcases mem_append.mp hq with z|z
  ·exact f5 p z
  ·exact hp p z b hb
 have loop:codeAny (model X.prog X.w) X.A (.compLoop (.ListComp elt [⟨tg,iter,ifs,0⟩] scope pos) 0 (.ref it) (.ref s2.heap.objs.size) (compEnvC scope (Dc X.env scope.names []) s3.heap.objs.size X.env))
   (compPost (model X.prog X.w) X.A X.xe use QQ (.ref s2.heap.objs.size) s3.heap.objs.size) {s3 with heap:=h₁,toks:=s3.toks+([]:List (Str×Value)).length}:=by
  refine codeAny_loop rfl (λn s'=>∃i σ' ys H',Inv (Ct X scope (T++F) s3.heap.objs.size s3 (upd H2 s2.heap.objs.size (.lst [])) fp pins) [] σ' H' s'/\tn i s'.heap/\(∀b∈fp,H' b=none)/\W i n σ' ys H') ?_ m0 ⟨0,_,[],_,I4,?_,λb hb=>(hf3 b hb).1.1,w0⟩
  ·rintro n s5 ⟨i,σ5,ys,H5,I5,st5,fr5,w5⟩;show wpAny _ X.A ((compTurn (.ListComp elt [⟨tg,iter,ifs,0⟩] scope pos) 0 (.ref it) (.ref s2.heap.objs.size) (compEnvC scope (Dc X.env scope.names []) s3.heap.objs.size X.env)).onRaise (λx=>do noteFrame x _;theTreesLotGoes x)) _ _ s5;refine wpAny_noted ?_;rw[compTurn_list];refine Gt (wpAny_standAt (Gt ?_));obtain⟨hD,tu⟩:=turn i n σ5 ys H5 w5;rcases tu with⟨stop,qq⟩|⟨go,NN,hNN,step⟩
   ·refine thn (Tn.done (Ct X scope (T++F) s3.heap.objs.size s3 (upd H2 s2.heap.objs.size (.lst [])) fp pins) rfl rfl rfl hc i [] s5 σ5 H5 _ I5 (stat (pl:=[]) (λ_ hp=>absurd hp not_mem_nil) fr5) st5 stop) λr s6 ⟨hr,I6⟩=> ?_;subst hr;refine Qa0 ?_;obtain⟨m6,hn6,_⟩:=I6.loc;have lC:s.heap.objs.size<=s.heap.objs.size:=le_refl _;exact fin _ _ s6 H5 m6 hn6 qq (I3.fpOk (le_refl _) I6.free) λh' sb=>Zk I3 (λb hb=>(hf3 b hb).1) I6 sb
   ·refine thn (Tn.item (Ct X scope (T++F) s3.heap.objs.size s3 (upd H2 s2.heap.objs.size (.lst [])) fp pins) rfl rfl rfl hc i [] s5 σ5 H5 _ I5 (stat (pl:=[]) (λ_ hp=>absurd hp not_mem_nil) fr5) st5 go) λr s6 ⟨u,hr,h6⟩=> ?_;subst hr;refine Gt (thn h6 λ_ s7 ⟨x,H7,I7,r7,y7,st7,fr7⟩=> ?_);have I7':=I7.pinned (stat (pl:=[]) (λ_ hp=>absurd hp not_mem_nil) fr7) (Tn.obj _ _ st7);have back:∀{σ8:St} {H8:Hp} {s8:Shared} {ys8:List V} {m':Nat},Inv (Ct X scope (T++F) s3.heap.objs.size s3 (upd H2 s2.heap.objs.size (.lst [])) fp pins) ([]++Lb fp s7.heap) σ8 H8 s8->m'<n->W (i+1) m' σ8 ys8 H8->
      ∃m,m<n/\∃i σ' ys H',Inv (Ct X scope (T++F) s3.heap.objs.size s3 (upd H2 s2.heap.objs.size (.lst [])) fp pins) [] σ' H' s8/\tn i s8.heap/\(∀b∈fp,H' b=none)/\W i m σ' ys H':=λ{σ8 H8 s8 ys8 m'} I8 hm w8=>by
     refine⟨m',hm,i+1,σ8,ys8,H8,I8.unpinned,Tn.keep _ _ _ st7 λb hb o e=>(I8.pin (b,o) (mem_append_right _ (mem_append_right _ (Fl hb e)))).1,λb hb=> ?_,w8⟩;obtain⟨o,e,d⟩:=Tn.obj _ _ st7 b hb;exact(I8.pin (b,o) (mem_append_right _ (mem_append_right _ (Fl hb e)))).2.1
    refine Gt (Qe3 (hg _ _ _ _ _ _ s7 σ5 H7 x u _ I7' r7 (step x H7 y7)) (λ_ s8 ⟨σ8,H8,I8,q8⟩=> ?_) λ_ _ z=>z.elim);refine Gt (Qe3 (hif _ _ _ _ _ _ s8 σ8 H8 _ I8 q8) (λok s9 ⟨H9,I9,q9⟩=> ?_) λ_ _ z=>z.elim);cases ok with
    |false=>
     rw[Qa1 Bool.false_ne_true] at q9;obtain⟨m',hm,w9⟩:=hNN _ _ _ q9;exact Qa0 ⟨rfl,back I9 hm w9⟩
    |true=>
     rw[Qa2 rfl] at q9;refine Gt (Gt (Qe3 (he _ _ _ _ _ _ s9 σ8 H9 _ I9 q9) (λyv s10 ⟨y,H10,I10,r10,d10,l10,q10⟩=> ?_) λ_ _ z=>z.elim));obtain⟨m',hm,w10⟩:=hNN _ _ _ q10;obtain⟨z10,its,n10,rv,el,eo⟩:=I10.lstM d10;refine Gt (wpAny_list_append_plain (items:=its.toArray) ⟨n10,eo⟩ (λh' hl' sb'=> ?_) (by simp;omega));obtain⟨n11,eo'⟩:=hl';have I11:=I10.write (x:=s2.heap.objs.size) (e:=s2.heap.objs.size) (o:= .lst (ys++[y])) (t':=s10.toks) (by rw[d10];exact trivial) (.inl rfl) (λb o hb e=>sb'.extBut b o hb e) ⟨_,eo'⟩ ⟨by simp;assumption,its++[yv],n11,rv.append (.cons r10 .nil),by simpa using eo'⟩;exact Qa0 (Qa0 ⟨rfl,back I11 hm w10⟩)
  ·refine Tn.keep _ _ _ st2 λb hb o e=>kk b o ?_;rw[e3];exact Lt _ e
 have st1:tn 0 h₁:=Tn.keep _ _ _ st2 λb hb o e=>kk b o (by rw[e3];exact Lt _ e);exact codeAny_compStart_list loop (Tn.self _ 0 _ _ _ st1 loop)
theorem Cg{tg elt iter:Expr}{ifs:List Expr}{pos:Pos}{g:TG}{ti:TT}{te:TE}{wi:TI}(S:Je X scope T F js)(hc:X.calm=true)(hi:PI X tg iter wi)(hg:∀C s H ex pins,PG (Ct X scope (T++F) C s H ex pins) tg g)(hif:∀C s H ex pins,PIf (Ct X scope (T++F) C s H ex pins) ifs ti)(he:∀C s H ex pins,PE (Ct X scope (T++F) C s H ex pins) elt te)(hs:∀x,foldedSetIterable iter X.env x=pure x:=by intro _;rfl):PE X (.ListComp elt [⟨tg,iter,ifs,0⟩] scope pos) (tComp wi g ti te T.length js):=by
 intro pins s σ H Q I h;rw[eval_ListComp];exact Vx (use:=none) S hc hi hg hif he I h (λD C s' H' m hn q _ hinv=>⟨m,hn,λh' sb=>⟨.ref D,H',hinv h' sb,rfl,q⟩⟩) hs
theorem Eo{i:Nat}{x:Str}{pos' spos:Pos}{tg elt iter:Expr}{ifs:List Expr}{pos:Pos}{g:TG}{ti:TT}{te:TE}{wi:TI}(hN:X.N.Nodup)(hx1:X.N[i]? =some x)(hx2:Loc X.env.scope x)(S:Je X scope T F js)(hc:X.calm=true)(hi:PI X tg iter wi)(hg:∀C s H ex pins,PG (Ct X scope (T++F) C s H ex pins) tg g)(hif:∀C s H ex pins,PIf (Ct X scope (T++F) C s H ex pins) ifs ti)(he:∀C s H ex pins,PE (Ct X scope (T++F) C s H ex pins) elt te)(hsw:swapsWith (.ListComp elt [⟨tg,iter,ifs,0⟩] scope pos) (some (.Name x pos')) spos.line X.env=pure true:=by rfl)(hf:X.fn x=true\/X.env.scope.names.lookup x=some .local:=by first|exact .inl rfl|exact .inr rfl|assumption)(hs:∀x,foldedSetIterable iter X.env x=pure x:=by intro _;rfl):PS X (.Assign [.Name x pos'] (.ListComp elt [⟨tg,iter,ifs,0⟩] scope pos) spos) (tAsg (tComp wi g ti te T.length js) (Qs i)):=by
 intro pins s σ H D I h;rw[exec_Assign_Name_used _ _ _ _ hsw];refine Gt (wpAny_standAt (Gt ?_));show wpAny _ X.A (do let _ <-comprehension (.ListComp elt [⟨tg,iter,ifs,0⟩] scope pos) scope X.env _ (newList []) false (eval iter X.env) (some (assign (.Name x pos') X.env))) _ _ s;refine Gt (Qe3 (Vx (use:=some (assign (.Name x pos') X.env)) (QQ:=λ_ s'=>SP X pins D .next s') S hc hi hg hif he I h (λd C s' H' m hn q fC hinv=> ?_) hs) (λ_ s' hq=>Qa0 (Qa0 hq)) λ_ _ e=>e);have I1:Inv X pins σ H' s':=hinv s'.heap (SameBut.refl ..);obtain⟨oC,es,ep,ho,hd,hr⟩:=id hn;obtain⟨f0,f1,f2,f3,f4,f5⟩:=fC;have I2:Inv X (pins++[(C,oC)]) σ H' s':=I1.pins_of λp hp=>(mem_append.mp hp).elim (λz=>I1.pin p (mem_append_right _ z)) λz=>by
  have e:=mem_singleton.mp z;subst e;exact⟨ho,f0,f1,f2,λv z=>by rw[hd] at z;cases z⟩
 show wpAny _ X.A (assign (.Name x pos') X.env (.ref d)) _ _ _;refine wpAny_assign_Name (Ex (v:= .ref d) I2 hN hx1 hx2 rfl (λs'' I''=> ?_) hf);have e2:=(I''.pin (C,oC) (mem_append_right _ (mem_append_right _ (mem_singleton.mpr rfl)))).1;refine⟨m,⟨oC,es,ep,e2,hd,hr⟩,λh' sb=> ?_⟩;exact⟨_,H',I''.unpinned.turned (t':=s''.toks) (it:=C) (λb o hb e=>sb.extBut b o hb e) f0 f1 f3 f4 f5,q⟩
end
section
variable{g:TG}{ti:TT}{te:TE}{Q:VK}{D:Addr}{σ:St}{H:Hp}
theorem Cz{K:Frag}{a:Addr}{xs:List V}(Pv:Nat->St->List V->Hp->Prop)(h0:Pv 0 σ [] (upd H D (.lst [])))(hl:∀i σ ys H,i<=xs.length->Pv i σ ys H->SqL K H a xs/\H D=some (.lst ys))(hs:∀i x σ ys H,xs[i]? =some x->Pv i σ ys H->Mw g ti te D x σ ys H (Pv (i+1)))(hd:∀σ ys H,Pv xs.length σ ys H->Q (.ref D) H):
  cgo (Itl K a) g ti te D σ H Q:=by
 refine⟨λi m σ ys H=>m=xs.length - i/\i<=xs.length/\Pv i σ ys H,⟨xs.length,by simp,Qc5 _,h0⟩,?_⟩;rintro i m σ ys H ⟨rfl,hi,p⟩;obtain⟨q,hD⟩:=hl i σ ys H hi p;refine⟨hD,?_⟩;by_cases hlt:i<xs.length
 ·refine .inr ⟨⟨xs,xs[i],q,by simp[hlt]⟩,Pv (i+1),λσ' ys' H' p'=>⟨xs.length - (i+1),by omega,rfl,hlt,p'⟩,λx H' y=> ?_⟩;obtain⟨e,y⟩:=y;subst e;exact(hs i x σ ys _ (y xs q) p)
 ·have e:i=xs.length:=by omega
  subst e;exact .inl ⟨⟨xs,q,le_refl _⟩,hd σ ys H p⟩
theorem Ia{K:Frag}{a:Addr}{xs:List V}(Pv:Nat->St->List V->Hp->Prop)(h0:Pv 0 σ [] (upd H D (.lst [])))(hl:∀i σ ys H,i<=xs.length->Pv i σ ys H->SqT K H a xs/\H D=some (.lst ys))(hs:∀i x σ ys H,xs[i]? =some x->Pv i σ ys H->Mw g ti te D x σ ys H (Pv (i+1)))(hd:∀σ ys H,Pv xs.length σ ys H->Q (.ref D) H):
  cgo (Itt K a) g ti te D σ H Q:=by
 refine⟨λi m σ ys H=>m=xs.length - i/\i<=xs.length/\Pv i σ ys H,⟨xs.length,by simp,Qc5 _,h0⟩,?_⟩;rintro i m σ ys H ⟨rfl,hi,p⟩;obtain⟨q,hD⟩:=hl i σ ys H hi p;refine⟨hD,?_⟩;by_cases hlt:i<xs.length
 ·refine .inr ⟨⟨xs,xs[i],q,by simp[hlt]⟩,Pv (i+1),λσ' ys' H' p'=>⟨xs.length - (i+1),by omega,rfl,hlt,p'⟩,λx H' y=> ?_⟩;obtain⟨e,y⟩:=y;subst e;exact(hs i x σ ys _ (y xs q) p)
 ·have e:i=xs.length:=by omega
  subst e;exact .inl ⟨⟨xs,q,le_refl _⟩,hd σ ys H p⟩
theorem Dl{lo:Int}{n:Nat}(Pv:Nat->St->List V->Hp->Prop)(h0:Pv 0 σ [] (upd H D (.lst [])))(hl:∀i σ ys H,i<=n->Pv i σ ys H->H D=some (.lst ys))(hs:∀i σ ys H,i<n->Pv i σ ys H->Mw g ti te D (.int (lo+i)) σ ys H (Pv (i+1)))(hd:∀σ ys H,Pv n σ ys H->Q (.ref D) H):
  cgo (Itr lo n) g ti te D σ H Q:=by
 refine⟨λi m σ ys H=>m=n - i/\i<=n/\Pv i σ ys H,⟨n,by simp,Qc5 _,h0⟩,?_⟩;rintro i m σ ys H ⟨rfl,hi,p⟩;have hD:=hl i σ ys H hi p;refine⟨hD,?_⟩;by_cases hlt:i<n
 ·refine .inr ⟨hlt,Pv (i+1),λσ' ys' H' p'=>⟨n - (i+1),by omega,rfl,hlt,p'⟩,λx H' y=> ?_⟩;obtain⟨e,y⟩:=y;subst e y;exact(hs i σ ys _ hlt p)
 ·have e:i=n:=by omega
  subst e;exact .inl ⟨le_refl _,hd σ ys H p⟩
end
mutual
inductive Rep(K:Frag)(H:Hp):V->PyData->Prop
 |non:Rep K H .non .none
 |bl (b:Bool):Rep K H (.bl b) (.bool b)
 |int (i:Int):Rep K H (.int i) (.int i)
 |str (x:Str):Rep K H (.str x) (.str x)
 |lst {a:Addr} {xs:List V} {ds:List PyData}:SqL K H a xs->RepAll K H xs ds->Rep K H (.ref a) (.list ds)
 |tup {a:Addr} {xs:List V} {ds:List PyData}:SqT K H a xs->RepAll K H xs ds->Rep K H (.ref a) (.tuple ds)
inductive RepAll(K:Frag)(H:Hp):List V->List PyData->Prop
 |nil:RepAll K H [] []
 |cons {x:V} {xs:List V} {d:PyData} {ds:List PyData}:Rep K H x d->RepAll K H xs ds->RepAll K H (x::xs) (d::ds)
end
mutual
theorem Rep.reads{X:Cx}{pins:List (Addr×Obj)}{σ:St}{H:Hp}{s:Shared}(I:Inv X pins σ H s):∀{v:V} {d:PyData} {u:Value},Rep X.K H v d->RelV v u->∃as,Reads s.heap u d as
 |_,_,_,.non,r=>by cases r;exact⟨_,.none⟩
 |_,_,_,.bl b,r=>by cases r;exact⟨_,.bool b⟩
 |_,_,_,.int i,r=>by obtain⟨t,rfl⟩:=r;exact⟨_,.int i t⟩
 |_,_,_,.str x,r=>by obtain⟨t,rfl⟩:=r;exact⟨_,.str x t⟩
 |_,_,_,.lst hq hx,r=>by
  cases r;obtain⟨its,rv,hl,hz⟩:=I.list hq;obtain⟨as,ra⟩:=RepAll.reads I hx rv;obtain⟨o,ho,hc,n,hd⟩:=hl.isList;exact⟨_,.list ho hc hd ra⟩
 |_,_,_,.tup hq hx,r=>by
  cases r;obtain⟨its,rv,hl,hz⟩:=I.tuple hq;obtain⟨as,ra⟩:=RepAll.reads I hx rv;obtain⟨o,ho,hc,n,hd⟩:=hl;exact⟨_,.tuple ho hc hd ra⟩
theorem RepAll.reads{X:Cx}{pins:List (Addr×Obj)}{σ:St}{H:Hp}{s:Shared}(I:Inv X pins σ H s):∀{xs:List V} {ds:List PyData} {us:List Value},RepAll X.K H xs ds->Vals xs us->∃as,ReadsAll s.heap us ds as
 |_,_,_,.nil,.nil=>⟨_,.nil⟩
 |_,_,_,.cons h t,.cons r rs=>by
  obtain⟨a,ra⟩:=Rep.reads I h r;obtain⟨b,rb⟩:=RepAll.reads I t rs;exact⟨_,.cons ra rb⟩
end
section
variable{X:Cx}{a b c e:Expr}{ta tb tc te:TE}{pos p2:Pos}
inductive RNeDP(K:Frag)(x:V)(y:V)(H:Hp)(Q:VK):Prop
 |mk (da db:_):(Rep K H x da)->(Rep K H y db)->(da.canLay0=true)->(db.canLay0=true)->(da.depth<=20)->(Q (.bl (!PyData.eqv da db)) H)->RNeDP K x y H Q
def rNeD(K:Frag):R2:=λx y H Q=>RNeDP K x y H Q
theorem op_neD(hu:X.A.units+64<cLine):OpR X (compareOp .NotEq) (rNeD X.K):=by
 intro pins s σ H x y u v Q I rx ry h;obtain⟨da,db,h1,h2,h3,h4,h5,q⟩:=h;obtain⟨as,r1⟩:=h1.reads I rx;obtain⟨bs,r2⟩:=h2.reads I ry;exact SeqAt.compareNe_reads r1 r2 h3 h4 (by omega) ⟨.bl _,H,I,rfl,q⟩
theorem Z3(hc:X.calm=true):Dv X (.builtin "sum") (λxs H Q=>∃(p:Addr) (ns:List Int),xs=[.ref p]/\SqL X.K H p (ns.map V.int)/\Q (.int ns.sum) H):=by
 intro pins s σ H xs us Q I r h;obtain⟨p,ns,rfl,hq,q⟩:=h;obtain⟨u,rfl,rx⟩:=Dg r;cases rx;obtain⟨its,rv,hl,hz⟩:=I.list hq;have hi:=U0 rv;obtain⟨ys,e⟩:=hi.allInts.items;have hl':=hl.isList;rw[e] at hl';refine sum_intListG (I.ok.hd hc) hl' λh' tk t' hk=>⟨.int ns.sum,H,I.kept hk,⟨t',?_⟩,q⟩
 have e2:ys.toList.map (·.1)=ns:=by
  have q2:=nums_intItems ys;rw[<-e] at q2;rw[<-q2];exact hi.numsOf
 rw[preSum_eq,e2,Qc6 (by rw[<-e2];simp)]
theorem R1:Dv X (.builtin "isinstance") (λxs H Q=>∃(x:V) (t:Value) (c:String) (b:Bool),xs=[x,.ty c]/\Jk X.K H x t/\kitOne X.K t (.type c)=some b/\Q (.bl b) H):=by
 intro pins s σ H xs us Q I r h;obtain⟨x,t,c,b,rfl,ty,e,q⟩:=h;obtain⟨u,v,rfl,rx,ry⟩:=vals2 r;cases ry;exact Ww I rx ty e λtk=>⟨.bl b,H,I.tok tk,rfl,q⟩
theorem pe_ty{x:Str}{T:String}(hg:Gl X x)(hm:X.mg x=none)(hv:bootBuiltins x=some (.type T))(hn:x≠"__name__":=by decide)(hd:(x==("__debug__":Str))=false:=by decide):PE X (.Name x pos) (tC (.ty T)):=
 λpins s σ H Q I h=>Dz I hg hm hv ⟨.ty T,H,I,rfl,h⟩ hn hd
def Ft(i:Int)(n:Nat):List Int:=(List.range n).map λ(k:Nat)=>i+(k:Int)
def tRev(K:Frag)(te:TE)(ts:TO):TE:=λσ H Q=>te σ H λx H1=>ts σ H1 λo H2=>o=some (-1)/\∃(a:Addr) (xs:List V),x= .ref a/\SqL K H2 a xs/\∀p,H2 p=none->Q (.ref p) (upd H2 p (.lst xs.reverse))
theorem pe_rev{st:Expr}{ts:TO}(he:PE X e te)(hs:PO X (some st) ts)(ops:Value->Value->List Value)(hsub:∀o i,subscripted (.Slice none none (some st) p2) false o i=operate (ops o i) (getItem o i)):PE X (.Subscript e (.Slice none none (some st) p2) pos) (tRev X.K te ts):=by
 intro pins s σ H Q I h;refine Subscript_ (thn (he pins s σ H _ I h) λv s1 ⟨x,H1,I1,r1,q1⟩=> ?_);refine wpAny_Slice ?_;rw[evalPart_none];refine Qa0 (Qa0 (thn (hs pins s1 σ H1 _ I1 q1) λvs s2 ⟨o,H2,I2,ps,q2⟩=> ?_));obtain⟨rfl,a,xs,rfl,hq,q⟩:=q2;cases r1;have I4:Inv X pins σ H2 {s2 with heap:=s2.heap.push {cls:= .type "slice",data:= .fields #[.none,.none,vs]}}:=I2.kept (t':=s2.toks) λb ob q=>Lt _ q;obtain⟨its,r,ht,hz⟩:=I4.list hq;have hlen:=r.length;show wpAny (model X.prog X.w) X.A (subscriptTail e (.Slice none none (some st) p2) (.ref a) (.ref s2.heap.objs.size)) (EP X pins σ Q) X.xe {s2 with heap:=s2.heap.push {cls:= .type "slice",data:= .fields #[.none,.none,vs]}};refine tail_any (ops:=ops (.ref a) (.ref s2.heap.objs.size)) ht.isList.typeIs slot_list_getitem.lookup ?_ (hsub _ _);refine wpAny_getItem_list_slice ht.isList (IsSliceOf.new ..) .none .none ps (by decide) ?_ (by rw[size_toArray]<;> omega);rw[PySem.W.krv_pick];refine⟨.ref _,_,I4.laid (t':=s2.toks) (o:= .lst xs.reverse) (λb ob q=>Lt _ q) (le_refl _) ⟨by simpa using hz,its.reverse,0,r.reverse,Qa5 _ rfl⟩,rfl,q _ I4.fresh⟩
inductive V5(K:Frag)(x:V)(y:V)(H:Hp)(Q:VK):Prop
 |mk (a b:Addr) (xs ys:List V):(x= .ref a)->(y= .ref b)->(SqT K H a xs)->(SqT K H b ys)->(xs.length+ys.length<=sizeLine)->((xs=[]->Q (.ref b) H))->((xs≠[]->ys=[]->Q (.ref a) H))->((xs≠[]->ys≠[]->∀p,H p=none->Q (.ref p) (upd H p (.tup (xs++ys)))))->V5 K x y H Q
def rCatTT(K:Frag):R2:=λx y H Q=>V5 K x y H Q
theorem Ib:OpR X (binaryOp .Add) (rCatTT X.K):=by
 intro pins s σ H x y u v Q I rx ry h;obtain⟨p,q,xs,ys,rfl,rfl,hx,hy,hz,h1,h2,h3⟩:=h;cases rx;cases ry;obtain⟨its,r1,t1,z1⟩:=I.tuple hx;obtain⟨its2,r2,t2,z2⟩:=I.tuple hy;have l1:=r1.length;have l2:=r2.length;by_cases e:xs=[]
 ·subst e;have ei:its=[]:=by cases its with|nil=>rfl|cons _ _=>cases l1
  subst ei;obtain⟨⟨cls,dd,data,sl⟩,ho,hc,n,hd⟩:=id t1;obtain⟨⟨cls2,dd2,data2,sl2⟩,ho2,hc2,n2,hd2⟩:=id t2;simp only at hc hd hc2 hd2;subst hc hd hc2 hd2;exact PySem.concat_meets ⟨_,ho,rfl⟩ ⟨_,ho2,rfl⟩ noFill_tuple_add seq_tuple_add slot_tuple_add entry_tuple_add (args_tuple_add_2 _ _)
   (tuple_addW0 p q _ _ n n2 dd dd2 sl sl2 (by rfl)) ⟨ho,ho2,⟨.ref q,H,I,rfl,h1 rfl⟩⟩
 ·refine HT.cat_tup t1 t2 (λz=>e ((Vals.nil_iff r1).mp z)) (λz=>⟨.ref p,H,I,rfl,h2 e ((Vals.nil_iff r2).mp z)⟩) (λz=> ?_) (by omega);exact⟨.ref s.heap.objs.size,_,I.laid (t':=s.toks) (o:= .tup (xs++ys)) (λb ob q=>Lt _ q) (le_refl _) ⟨by simpa using hz,its++its2,r1.append r2,IsTupN.new _ _⟩,rfl,h3 e (λz'=>z ((Vals.nil_iff r2).mpr z')) _ I.fresh⟩
end
section
variable{X:Cx}{a b c e:Expr}{ta tb tc te:TE}{pos p2:Pos}
inductive RSlSP(x:V)(lo:Option Int)(hi:Option Int)(H:Hp)(Q:VK):Prop
 |mk (z:_):(x= .str z)->(z.length<=sizeLine)->(Q (.str (Txt.slice z lo hi)) H)->RSlSP x lo hi H Q
def rSlS:V->Option Int->Option Int->Hp->VK->Prop:=λx lo hi H Q=>RSlSP x lo hi H Q
theorem Ys:SlR X rSlS:=by
 intro pins s σ H x v vl vu lo hi sl Q I rx hs pl pu h;obtain⟨z,rfl,hz,q⟩:=h;obtain⟨t,rfl⟩:=rx;refine⟨"str",_,PySem.F.slot_str_getitem.lookup,typeIs_str _ _ _,?_⟩;have fin:∀t' k,EP X pins σ Q (.str (Txt.slice z lo hi) t') {s with toks:=k}:=λt' k=>⟨.str _,H,I.tok k,⟨t',rfl⟩,q⟩
 cases pl with
 |none=>
  cases pu with
  |none=>exact Qf8 (l:=none) (u:=none) (st:=none) hs rfl (post_val_or_str ⟨le_trans (Txt.slice_le z _ _) hz,fin⟩)
  |int j tj=>exact Qf8 (l:=none) (u:=some (j,tj)) (st:=none) hs rfl (post_val_or_str ⟨le_trans (Txt.slice_le z _ _) hz,fin⟩)
 |int i ti=>
  cases pu with
  |none=>exact Qf8 (l:=some (i,ti)) (u:=none) (st:=none) hs rfl (post_val_or_str ⟨le_trans (Txt.slice_le z _ _) hz,fin⟩)
  |int j tj=>exact Qf8 (l:=some (i,ti)) (u:=some (j,tj)) (st:=none) hs rfl (post_val_or_str ⟨le_trans (Txt.slice_le z _ _) hz,fin⟩)
theorem Li:∀{ys:List Str} {us:List Value},Vals (ys.map V.str) us->StrsAre us ys
 |[],_,.nil=> .nil
 |y::ys,_,.cons h t=>by
  obtain⟨u,rfl⟩:=h;exact .cons y u (Li t)
inductive RJoinP(K:Frag)(x:V)(vs:List V)(H:Hp)(Q:VK):Prop
 |mk (z:Str) (l:Addr) (ys:List Str):(x= .str z)->(vs=[.ref l])->(SqL K H l (ys.map V.str))->((ys.map (·.length)).sum+ys.length * z.length<=16777216)->(Q (.str (Txt.join z ys)) H)->RJoinP K x vs H Q
def rJoin(K:Frag):V->List V->Hp->VK->Prop:=λx vs H Q=>RJoinP K x vs H Q
theorem mt_join:MtM X "str.join" (rJoin X.K):=by
 intro pins s σ H x xs v us Q I rx r h;obtain⟨z,l,ys,rfl,rfl,hl,hz,q⟩:=h;obtain⟨t,rfl⟩:=rx;obtain⟨u,rfl,ru⟩:=Dg r;cases ru;obtain⟨its,rv,hp,_⟩:=I.list hl;exact join_list hp.isList (Li rv) hz λt' k=>⟨.str _,H,I.tok k,⟨t',rfl⟩,q⟩
end
def relab(scope osc:Scope):Scope:={scope with names:=scope.names.map λ(n,k)=>if (k== .free && osc.kind== .function && osc.names.lookup n==some .cell) then (n,.cell) else (n,k)}
structure CS(osc scope:Scope)(T F:List Str):Prop where
 kind:scope.kind= .function
 nocell:∀y∈scope.names,y.2≠ .cell
 names:∀x∈scope.names,x.2= .local->scope.names.lookup x.1=some .local
 free:∀x∈scope.names,x.2= .free->osc.names.lookup x.1=some .cell
 loc:∀y∈T,(relab scope osc).names.lookup y=some .local
 cel:∀y∈F,(relab scope osc).names.lookup y=some .cell/\osc.names.lookup y=some .cell/\(y,NameKind.free)∈scope.names
 all:∀x∈(relab scope osc).names,(x.2= .cell\/x.2= .free)->(x.1,NameKind.free)∈scope.names
theorem CS.to{X:Cx}{scope osc:Scope}{T F:List Str}{js:List Nat}(h:CS osc scope T F)(hj:js.map (λj=>X.N[j]?)=F.map some)(ho:X.env.scope=osc):Je X scope T F js:=by
 subst ho;exact⟨h.kind,h.nocell,h.names,h.free,h.loc,h.cel,h.all,hj⟩
theorem PSs.imp'{X:Cx}{st:List PySem.Stmt}{t t':TS}(h:PSs X st t)(f:∀D σ H,t' D σ H->t D σ H):PSs X st t':=λpins s σ H D I h'=>h pins s σ H D I (f D σ H h')
structure Cl(P:Program)(w:World)(K:Frag)(mg:Str->Option Value)(base:Heap)(n:Nat)(x:Str)(ps:List Str)(sp:Sp):Prop where
 ex:∃(g:Addr) (fd:FuncData),keepIn K (.ref g)=true/\Binds K fd ps []/\mg x=some (.ref g)/\FnOk P w K mg base CX0 n g fd ps sp
theorem Cl.up{P:Program}{w:World}{K:Frag}{mg:Str->Option Value}{base:Heap}{j n:Nat}{x:Str}{ps:List Str}{sp:Sp}(h:Cl P w K mg base j x ps sp)(l:j<=n:=by decide):Cl P w K mg base n x ps sp:=
 let ⟨g,fd,a,b,c,d⟩:=h.ex
 ⟨g,fd,a,b,c,d.mono l⟩
structure FA(K:Frag)(x:Str)(st:Stmt)(f:Addr):Prop where
 a:PySem.W.nsIn K mainGlobals x=some (some (.ref f))
 fn:∃fd,Fun K x x st f fd
theorem FA.of{K:Frag}{x:Str}{st:Stmt}{f:Addr}{oc:Value}{od an:Option Addr}{osl:Array (Option Value)}{kV doc pm cdv ct:Value}(a:PySem.W.nsIn K mainGlobals x=some (some (.ref f)))(l:K.lookup f=some ⟨oc,od,.func (PySem.W.fnOf x x (Cf st) (By st) (Ah st) .none kV doc pm an cdv ct),osl⟩)(c:PySem.W.codeIn K cdv x=true)(k:keepIn K (.ref f)=true):FA K x st f:=⟨a,_,Ev l c k⟩
theorem Fun.bindsTo{K:Frag}{x qual:Str}{st:Stmt}{f:Addr}{fd:FuncData}{y:Str}(F:Fun K x qual st f fd)(h:∀(kV doc pm:Value) (an:Option Addr) (cdv ct v:Value),bindArgs (PySem.W.fnOf x qual (Cf st) (By st) (Ah st) .none kV doc pm an cdv ct) ⟨[v],[]⟩=pure [(y,v)]:=by intros;rfl)(s:Shared)(v:Value):BindsTo s fd ⟨[v],[]⟩ [(y,v)]:=by
 obtain⟨oc,od,kV,doc,pm,an,cdv,ct,osl,rfl,_⟩:=F.ex;exact .of_eq (h kV doc pm an cdv ct v)
theorem Cy{K:Frag}{x:Str}{st:Stmt}{f:Addr}{fd:FuncData}{mg:Str->Option Value}{ps:List Str}{n:Nat}{sp:Sp}{h:Heap}(P:Program)(w:World)(base:Heap)(F:Fun K x x st f fd)(A:FA K x st f)(X:K.In h)(G:h.Ns mainGlobals mg)(b:∀(kV doc pm:Value) (an:Option Addr) (cdv ct:Value) (us:List Value),us.length=ps.length->bindArgs (PySem.W.fnOf x x (Cf st) (By st) (Ah st) .none kV doc pm an cdv ct) ⟨us,[]⟩=pure (ps.zip us))(Q:FnOk P w K mg base CX0 n f fd ps sp):Cl P w K mg base n x ps sp:=
 ⟨f,fd,F.kp,F.binds b,mg_of X G A.a,Q⟩
section
variable{X:Cx}{k:Nat}{x:Str}{ps:List Str}{sp:Sp}{e:Expr}{es:List Expr}{t:TA}{p pos:Pos}
theorem A7(C:Cl X.prog X.w X.K X.mg X.base k x ps sp)(hr:Room k X.A)(ha:PA X (e::es) t)(hg:Gl X x:=by rfl)(hdb:(x==("__debug__":Str))=false:=by decide)(he:starEach (e::es) X.env=(false,eval e X.env)::starEach es X.env:=by rfl)(hpl:(backTo pos (starEach es X.env)).any (·.1)=false:=by rfl):
  PE X (.Call (.Name x p) (e::es) [] pos) (tCall sp [] E0 t):=by
 obtain⟨g,fd,a,b,c,d⟩:=C.ex;exact Go d hr hg c a b .nil C7 ha hdb he hpl
end
theorem cs{X:Cx}{scope osc:Scope}{T F:List Str}{js:List Nat}(h1:scope.kind= .function:=by rfl)(h2:∀y∈scope.names,y.2≠ .cell:=by decide+kernel)(h3:∀x∈scope.names,x.2= .local->scope.names.lookup x.1=some .local:=by decide+kernel)(h4:∀x∈scope.names,x.2= .free->osc.names.lookup x.1=some .cell:=by decide+kernel)(h5:∀y∈T,(relab scope osc).names.lookup y=some .local:=by decide+kernel)(h6:∀y∈F,(relab scope osc).names.lookup y=some .cell/\osc.names.lookup y=some .cell/\(y,NameKind.free)∈scope.names:=by decide+kernel)(h7:∀x∈(relab scope osc).names,(x.2= .cell\/x.2= .free)->(x.1,NameKind.free)∈scope.names:=by decide+kernel)(hj:js.map (λj=>X.N[j]?)=F.map some:=by rfl)(ho:X.env.scope=osc:=by rfl):Je X scope T F js:=CS.to ⟨h1,h2,h3,h4,h5,h6,h7⟩ hj ho
end L2
namespace L2
theorem Ck{p:Prop}(h:∀G:Prop,(p->G)->G):p:=h p id
end L2
namespace L2
open PySem PySem.Spec PyProof.Rows
section
variable{X:Cx}{pins:List (Addr×Obj)}{σ:St}{H:Hp}{s:Shared}
theorem Inv.turnedL{t':Nat}{h':Heap}(ch:List Addr)(I:Inv X pins σ H s)(k:∀b o,b ∉ ch->s.heap.get? b=some o->h'.get? b=some o)(hf:∀b∈ch,FpOk X pins H b):Inv X pins σ H {s with heap:=h',toks:=t'}:=by
 have out:∀b u,H b=some u->b ∉ ch:=λb u e z=>by rw[(hf b z).1] at e;cases e
 have outL:X.env.locals ∉ ch:=λz=>(hf _ z).2.1 rfl;refine I.step (g':=s.gens) (d':=s.drawn) (ch:=ch) (λb hb=>⟨(hf b hb).2.2.2.1,(hf b hb).2.1,(hf b hb).2.2.2.2.1,(hf b hb).2.2.2.2.2⟩) (λb o _ _ hc e _=>k b o hc e) (λb o _ _ hc e _=>⟨o.slots,k b o hc e⟩)
  (λ_ _ _ _ n=>n) (λb o hc e=>⟨o,k b o hc e⟩) (λ_ _ e=>e) (λ_ _ _ e=>e) (λb ps e=>⟨#[],by rw[e];simp⟩) (λm hm=> ?_) (λb u e=> ?_) I.bare
 ·obtain⟨o,es,ep,ho,r⟩:=hm;exact⟨o,es,ep,k _ o outL ho,r⟩
 ·refine(I.hok b u e).stay (λc v hc q=>k c v ?_ q) (λ_ q=>q) λ_ _ q=>q;rcases hc with z|z
  ·rw[z];exact out b u e
  ·exact out c _ z
theorem FpOk.up{b T:Addr}{o:HO}(h:FpOk X pins H b)(n:b≠T):FpOk X pins (upd H T o) b:=⟨by rw[Ai n];exact h.1,h.2⟩
end
def Ite(K:Frag)(a:Addr):It:=
 ⟨λi H=>∃xs x,SqL K H a xs/\xs[i]? =some x,λi H v H'=>∃T x,H T=none/\v= .ref T/\H'=upd H T (.tup [.int i,x])/\∀xs,SqL K H a xs->xs[i]? =some x,λi H=>∃xs,SqL K H a xs/\xs.length<=i⟩
theorem Xy{P:Program}{w:World}{K:Frag}{elts:List Expr}{x1}{pos:Pos}(a e it:Addr)(hei:e≠it):U2 P w K (.Tuple elts x1 pos) (Ite K a) [e,it] e (λi h=>(∃old,IsEnum h e it i old)/\h.IsListIter it a i) where
 mem:=by simp
 obj:=λi h st b hb=>by
  obtain⟨⟨old,he⟩,o,ho,hc,hd⟩:=st;rcases Qa6.mp hb with rfl|hb
  ·exact⟨_,he,λv z=>by cases z⟩
  ·have:b=it:=by simpa using hb
   subst this;exact⟨o,ho,λv z=>by rw[hd] at z;cases z⟩
 keep:=λi h h' st k=>⟨let ⟨old,he⟩:=st.1;⟨old,k e (by simp) _ he⟩,st.2.at λo q=>k it (by simp) o q⟩
 item:=by
  intro X hP hw hK hc i pins s σ H E I hf st hg;subst hP hw hK;obtain⟨⟨old,he⟩,hit⟩:=st;obtain⟨xs,x,hq,hx⟩:=hg;obtain⟨its,rv,p,hz⟩:=I.list hq;obtain⟨u,hu,ru⟩:=rv.get hx;have fresh:H s.heap.objs.size=none:=I.hok.fresh (le_refl _);have elt:e<s.heap.objs.size:=Qa7 he;have ilt:it<s.heap.objs.size:=by obtain⟨_,q,_⟩:=hit;exact Qa7 q
  refine wpAny_pyNext_enum_item he hit p.isList (x:=u) (by simpa using hu) hei λh' eo it' hT hsz kk=>⟨_,rfl,?_⟩
  refine wpAny_letOwnedTupleGo_enum (s:={s with heap:=h',toks:=s.toks+1}) eo λh2 e2 sb=> ?_;have I1:Inv X pins σ (upd H s.heap.objs.size (.tup [.int i,x])) {s with heap:=s.heap.push {cls:= .type "tuple",data:= .seq #[.int i s.toks,u]},toks:=s.toks}:=
   I.laid (o:= .tup [.int i,x]) (λb ob q=>Lt _ q) (le_refl _) ⟨by rw[Qb3];simp,[.int i s.toks,u],.cons ⟨_,rfl⟩ (.cons ru .nil),IsTupN.new _ _⟩
  have I2:=I1.turnedL (h':=h2) (t':=s.toks+1) [e,it] (λb o hb q=> ?_) (λb hb=> ?_)
  ·refine⟨.ref s.heap.objs.size,_,I2,rfl,⟨_,x,fresh,rfl,rfl,λys hy=>by rw[I.list_inj hy hq];exact hx⟩,⟨⟨_,by simpa using e2⟩,it'.at λo q=>(sb.2 it hei.symm).trans q⟩,λb hb=> ?_⟩;rcases Qa6.mp hb with rfl|hb
   ·rw[Ai (ne_of_lt elt)];exact(hf _ (by simp)).1
   ·have:b=it:=by simpa using hb
    subst this;rw[Ai (ne_of_lt ilt)];exact(hf _ (by simp)).1
  ·have b1:b≠e:=λz=>hb (by simp[z]);have b2:b≠it:=λz=>hb (by simp[z]);refine(sb.2 b b1).trans ?_;by_cases hbs:b=s.heap.objs.size
   ·subst hbs;rw[Qa5 _ rfl] at q;cases q;exact hT
   ·rw[Qg7 _ _ _ hbs] at q;exact kk b o b1 b2 q
  ·rcases Qa6.mp hb with rfl|hb
   ·exact(hf _ (by simp)).up (ne_of_lt elt)
   ·have:b=it:=by simpa using hb
    subst this;exact(hf _ (by simp)).up (ne_of_lt ilt)
 done:=by
  intro X hP hw hK hc i pins s σ H E I hf st hg;subst hP hw hK;obtain⟨⟨old,he⟩,hit⟩:=st;obtain⟨xs,hq,hx⟩:=hg;obtain⟨its,rv,p,hz⟩:=I.list hq;have hl:=rv.length;exact wpAny_pyNext_enum_end (I.ok.hd hc) he hit p.isList (by simp;omega) λh' eb=>⟨rfl,I.turnedL (t':=s.toks) [e,it] (λb o hb q=>eb b o (λz=>hb (by simp[z])) q) hf⟩
 self:=λA i s Q E st h=>let ⟨⟨old,he⟩,_⟩:=st;wpAny_pyIter_enum he h
def iEnum(K:Frag)(ta:TA):TI:=λσ H R=>ta σ H λvs H1=>∃a xs,vs=[.ref a]/\SqL K H1 a xs/\R (Ite K a) H1
theorem pi_enumL{X:Cx}{elts:List Expr}{x1}{tpos:Pos}{a:Expr}{ta:TA}{p pos:Pos}(hg:Gl X "enumerate")(hm:X.mg "enumerate"=none)(ha:PA X [a] ta)(hs:starEach [a] X.env=[(false,eval a X.env)]:=by rfl):
  PI X (.Tuple elts x1 tpos) (.Call (.Name "enumerate" p) [a] [] pos) (iEnum X.K ta):=by
 intro pins s σ H R I h;refine Call_ (Dz I hg hm (show bootBuiltins "enumerate"=some (.type "enumerate") by decide+kernel) (PyProof.Rows.callWith_type1 (thn (ha pos pins s σ H _ I h) λus s1 ⟨vs,H1,I1,r1,q1⟩=> ?_) hs rfl));obtain⟨l,xs,e,hq,q⟩:=q1;subst e;obtain⟨u,rfl,ru⟩:=Dg r1;cases ru;obtain⟨its,rv,pl,hz⟩:=I1.list hq;refine call_enumerate_list pl.isList λh' he hit hsz kk=>wpAny_pyIter_enum he ?_;refine⟨s1.heap.objs.size+1,[s1.heap.objs.size+1,s1.heap.objs.size],_,_,H1,rfl,I1.kept (t':=s1.toks) kk,Xy l _ _ (Nat.succ_ne_self _),⟨⟨_,he⟩,hit⟩,λb hb=> ?_,q⟩;have hb:s1.heap.objs.size<=b:=by
  rcases Qa6.mp hb with rfl|hb
  ·exact le_succ _
  ·have:b=s1.heap.objs.size:=by simpa using hb
   exact le_of_eq this.symm
 exact I1.fpOk hb (I1.hok.fresh hb)
section
variable{g:TG}{ti:TT}{te:TE}{Q:VK}{D:Addr}{σ:St}{H:Hp}
theorem Xa{K:Frag}{a:Addr}{xs:List V}(Pv:Nat->St->List V->Hp->Prop)(h0:Pv 0 σ [] (upd H D (.lst [])))(hl:∀i σ ys H,i<=xs.length->Pv i σ ys H->SqL K H a xs/\H D=some (.lst ys))(hs:∀i x σ ys H T,xs[i]? =some x->Pv i σ ys H->H T=none->Mw g ti te D (.ref T) σ ys (upd H T (.tup [.int (i:Nat),x])) (Pv (i+1)))(hd:∀σ ys H,Pv xs.length σ ys H->Q (.ref D) H):
  cgo (Ite K a) g ti te D σ H Q:=by
 refine⟨λi m σ ys H=>m=xs.length - i/\i<=xs.length/\Pv i σ ys H,⟨xs.length,by simp,Qc5 _,h0⟩,?_⟩;rintro i m σ ys H ⟨rfl,hi,p⟩;obtain⟨q,hD⟩:=hl i σ ys H hi p;refine⟨hD,?_⟩;by_cases hlt:i<xs.length
 ·refine .inr ⟨⟨xs,xs[i],q,by simp[hlt]⟩,Pv (i+1),λσ' ys' H' p'=>⟨xs.length - (i+1),by omega,rfl,hlt,p'⟩,λx H' y=> ?_⟩;obtain⟨T,z,hT,rfl,rfl,y⟩:=y;exact hs i z σ ys H T (y xs q) p hT
 ·have e:i=xs.length:=by omega
  subst e;exact .inl ⟨⟨xs,q,le_refl _⟩,hd σ ys H p⟩
end
end L2
namespace PySem
open Builtin
section
variable{prog:Program}{w:World}{A:Around}{E:Value->Shared->Prop}{s:Shared}
theorem Ta{it t:Addr}{i:Nat}{its:Array Value}{x:Value}{Q:Value->Shared->Prop}(hi:s.heap.IsTupleIter it t i)(ht:s.heap.IsTuple t its)(hx:its[i]? =some x)(hQ:∀h',h'.IsTupleIter it t (i+1)->SameBut it s.heap h'->Q x {s with heap:=h'}):wpAny (model prog w) A (Builtin.SmallTypes.nextOf (.ref it)) Q E s:=by
 obtain⟨oi,gi,ci,di⟩:=id hi;obtain⟨ot,gt,_,nt,dt⟩:=ht;unfold Builtin.SmallTypes.nextOf;refine Gt (Qc1 (name:=Str.ofString "__next__") hi.typeIs F.slot_tuple_iterator_next (Qd0 F.slot_tuple_iterator_next hi.typeIs F.entry_tuple_iterator_next ?_ (F.args_tuple_iterator_next_1 _)));show wpAny _ _ (field (.ref it) 0 >>=λ_=>_) _ _ s;refine Gt (Qb6 gi di (x:= .ref t) rfl ?_);show wpAny _ _ (ite ((Value.ref t==Value.none)=true) _ _) _ _ s;have ng:¬((Value.ref t==Value.none)=true):=Bool.false_ne_true;rw[Qa1 ng];show wpAny _ _ (field (.ref it) 1 >>=λ_=>_) _ _ s;refine Gt (Qb6 gi di (x:= .int i 0) rfl ?_);show wpAny _ _ (seqItems? (.ref t) >>=λ_=>_) _ _ s;refine Gt (Qd2 gt dt ?_);simp only[Qd4,hx];refine Gt (wpAny_setField gi di (by simp) (Qa0 ⟨x,rfl,Qa0 (hQ _ ⟨_,Heap.get?_update_self _ gi (Obj.isFreed_of_fields (Obj.data_mapFields di _)),(Obj.cls_mapFields ..).trans ci,?_⟩ (SameBut.update ..))⟩));rw[Obj.data_mapFields di];simp[rawInt]
theorem Mg{it t:Addr}{i:Nat}{its:Array Value}{Q:Value->Shared->Prop}(hh:A.handled=none)(hi:s.heap.IsTupleIter it t i)(ht:s.heap.IsTuple t its)(hx:its[i]? =none)(hE:∀h' e,Heap.ExtBut it s.heap h'->(∃o,h'.get? e=some o/\o.cls= .type "StopIteration")->E (.ref e) {s with heap:=h'}):wpAny (model prog w) A (Builtin.SmallTypes.nextOf (.ref it)) Q E s:=by
 obtain⟨oi,gi,ci,di⟩:=id hi;obtain⟨ot,gt,_,nt,dt⟩:=ht;unfold Builtin.SmallTypes.nextOf;refine Gt (Qc1 (name:=Str.ofString "__next__") hi.typeIs F.slot_tuple_iterator_next (Qd0 F.slot_tuple_iterator_next hi.typeIs F.entry_tuple_iterator_next ?_ (F.args_tuple_iterator_next_1 _)));show wpAny _ _ (field (.ref it) 0 >>=λ_=>_) _ _ s;refine Gt (Qb6 gi di (x:= .ref t) rfl ?_);show wpAny _ _ (ite ((Value.ref t==Value.none)=true) _ _) _ _ s;have ng:¬((Value.ref t==Value.none)=true):=Bool.false_ne_true;rw[Qa1 ng];show wpAny _ _ (field (.ref it) 1 >>=λ_=>_) _ _ s;refine Gt (Qb6 gi di (x:= .int i 0) rfl ?_);show wpAny _ _ (seqItems? (.ref t) >>=λ_=>_) _ _ s;refine Gt (Qd2 gt dt ?_);simp only[Qd4,hx];refine Gt (Qd5 (Gt (wpAny_setField gi di (by simp) ?_)));show wpAny _ _ (newExc (.type "StopIteration") [] >>=λ_=>_) _ _ _;refine Gt ?_;simp only[newExc,newTuple];refine Gt (Qc0 ?_ (by size_fits));refine Gt (m:=firstArgMember _ _) (wpAny_of_eq (a:=Value.none) (by first|rfl|(simp only[firstArgMember];rfl)) ?_);refine Qc0 ?_ (by size_fits);simp only[raiseNew];refine Gt (wpAny_handled ?_)
 first|rw[show A.in1.handled=none from hh]|rw[hh]
 exact Gt (Qa0 (wpAny_throw (hE _ _ (((SameBut.update ..).extBut.push _).push _) ⟨_,Qa5 _ rfl,rfl⟩)))
theorem Draws.tup{prog:Program}{w:World}{A:Around}(hh:A.handled=none)(it t:Addr)(hne:t≠it)(its:Array Value):
  Draws prog w A it [it,t] its.size (λi v=>its[i]? =some v) (λi h=>h.IsTupleIter it t i/\h.IsTuple t its) where
 live:=λ_ _ st=>⟨st.1.choose,st.1.choose_spec.1⟩
 frame:=λ_ _ _ st hk=>⟨st.1.at λo e=>hk it (by simp) o e,let ⟨o,ho,r⟩:=st.2;⟨o,hk t (by simp) o ho,r⟩⟩
 item:=λi s Q E hi st hQ=>by
  refine Ta st.1 st.2 (x:=its[i]) (by simp[hi]) λh' hit' hs'=> ?_;exact hQ _ h' s.toks (by simp[hi]) ⟨hit',let ⟨o,ho,r⟩:=st.2;⟨o,hs'.extBut _ _ hne ho,r⟩⟩ hs'
 done:=λs Q E st hE=>Mg hh st.1 st.2 (by simp) hE
end
structure ZAp(z TI TO i1 i2:Addr)(f1 f2:List Addr):Prop where
 a1:TI≠z
 a2:TO≠z
 a3:i1≠z
 a4:i2≠z
 a5:TI≠TO
 a6:TI≠i1
 a7:TI≠i2
 a8:TO≠i1
 a9:TO≠i2
 b1:i1≠i2
 b2:z ∉ f1
 b3:z ∉ f2
 b4:TO ∉ f1
 b5:TO ∉ f2
 b6:i1 ∉ f2
 b7:i2 ∉ f1
section
variable{prog:Program}{w:World}{A:Around}{E:Value->Shared->Prop}{s:Shared}{z TI TO i1 i2:Addr}{f1 f2:List Addr}{n1 n2:Nat}{P1 P2:Nat->Value->Prop}{S1 S2:Nat->Heap->Prop}
theorem W0{k:Nat}{a b:Value}{Q:Value->Shared->Prop}(D:ZAp z TI TO i1 i2 f1 f2)(D1:Draws prog w A i1 f1 n1 P1 S1)(D2:Draws prog w A i2 f2 n2 P2 S2)(hZ:IsZip s.heap z TI TO .none)(pI:IsPair s.heap TI (.ref i1) (.ref i2))(pO:IsPair s.heap TO a b)(t1:S1 k s.heap)(t2:S2 k s.heap)(l1:k<n1)(l2:k<n2)(hQ:∀h' tk x y,P1 k x->P2 k y->IsZip h' z TI TO (rawInt s.heap.objs.size)->IsPair h' TO x y->S1 (k+1) h'->S2 (k+1) h'->IsPair h' s.heap.objs.size x y->
   (∀c o,c≠z->c≠TO->c≠i1->c≠i2->s.heap.get? c=some o->h'.get? c=some o)->Q (.ref s.heap.objs.size) {s with heap:=h',toks:=tk}):
  wpAny (model prog w) A (Builtin.«zip.__next__» ⟨[.ref z],[]⟩) (λfin s'=>∃v,fin= .done (.ret v)/\Q v s') E s:=by
 show wpAny _ _ (field (.ref z) 2 >>=λ_=>_) _ _ _;refine Gt (Qb6 hZ rfl (x:= .bool false) rfl ?_);show wpAny _ _ (field (.ref z) 3 >>=λ_=>_) _ _ _;refine Gt (Qb6 hZ rfl (x:= .ref TI) rfl ?_);refine Gt (Qd2 pI rfl ?_);show wpAny _ _ (Builtin.SmallTypes.ownedTupleIsFree (.ref z) >>=λ_=>_) _ _ _;refine Gt ?_;unfold Builtin.SmallTypes.ownedTupleIsFree;refine Gt (Qb6 hZ rfl (x:= .none) rfl (Qa0 ?_));simp only[Qe7];refine Gt (Qd5 (Gt (Qb6 hZ rfl (x:= .ref TO) rfl ?_)));refine Gt (Qe2 hZ (by simp) λg1 zg1 k1=> ?_)
 replace zg1:IsZip g1 z TI TO .ellipsis:=zg1
 refine Gt ?_;simp only[List.zipIdx_cons,List.zipIdx_nil,forIn_cons,forIn_nil];refine Gt (Gt (wpAny_onRaise ?_));show wpAny _ _ (Builtin.SmallTypes.nextOf (.ref i1) >>=λ_=>_) _ _ _;refine Gt (D1.item k _ _ _ l1 (D1.frame _ _ _ t1 λc hc o e=>k1.extBut _ _ (λq=>D.b2 (q▸hc)) e) λx g2 tk2 px sg2 k2=>Qa0 ?_);have pO2:IsPair g2 TO a b:=k2.extBut _ _ D.a8 (k1.extBut _ _ D.a2 pO);refine Gt (Qd2 pO2 rfl (Gt (wpAny_updateSeq_pair pO2 λg3 pO3 k3=> ?_)))
 replace pO3:IsPair g3 TO x b:=pO3
 refine Gt (wpAny_letGo (Qa0 (Gt (Gt (wpAny_onRaise ?_)))));show wpAny _ _ (Builtin.SmallTypes.nextOf (.ref i2) >>=λ_=>_) _ _ _;have t2':S2 k g3:=D2.frame _ _ _ t2 λc hc o e=>k3.extBut _ _ (λq=>D.b5 (q▸hc)) (k2.extBut _ _ (λq=>D.b6 (q▸hc)) (k1.extBut _ _ (λq=>D.b3 (q▸hc)) e));refine Gt (D2.item k _ _ _ l2 t2' λy g4 tk4 py sg4 k4=>Qa0 ?_);have pO4:IsPair g4 TO x b:=k4.extBut _ _ D.a9 pO3;refine Gt (Qd2 pO4 rfl (Gt (wpAny_updateSeq_pair pO4 λg5 pO5 k5=> ?_)))
 replace pO5:IsPair g5 TO x y:=pO5
 refine Gt (wpAny_letGo (Qa0 (Qa0 (Gt (Qd2 pO5 rfl (Gt (wpAny_newTuple ?_)))))));have sz:g5.objs.size=s.heap.objs.size:=by rw[k5.1,k4.1,k3.1,k2.1,k1.1]
 have zg5:IsZip g5 z TI TO .ellipsis:=k5.extBut _ _ D.a2.symm (k4.extBut _ _ D.a4.symm (k3.extBut _ _ D.a2.symm (k2.extBut _ _ D.a3.symm zg1)));have kk:∀c o,c≠z->c≠TO->c≠i1->c≠i2->s.heap.get? c=some o->g5.get? c=some o:=λc o c1 c2 c3 c4 e=>k5.extBut _ _ c2 (k4.extBut _ _ c4 (k3.extBut _ _ c2 (k2.extBut _ _ c3 (k1.extBut _ _ c1 e))));have u1:S1 (k+1) g5:=D1.frame _ _ _ sg2 λc hc o e=>k5.extBut _ _ (λq=>D.b4 (q▸hc)) (k4.extBut _ _ (λq=>D.b7 (q▸hc)) (k3.extBut _ _ (λq=>D.b4 (q▸hc)) e));have u2:S2 (k+1) g5:=D2.frame _ _ _ sg4 λc hc o e=>k5.extBut _ _ (λq=>D.b5 (q▸hc)) e;have zlt:z<g5.objs.size:=Qa7 zg5;show wpAny _ _ (Builtin.SmallTypes.ownedTupleHandOut (.ref z) (.ref g5.objs.size) >>=λ_=>_) _ _ _;refine Gt ?_;unfold Builtin.SmallTypes.ownedTupleHandOut;have zg6:IsZip (g5.push {cls:= .type "tuple",data:= .seq #[x,y]}) z TI TO .ellipsis:=Lt _ zg5;refine Gt (Qe2 zg6 (by simp) λg7 zg7 k7=> ?_)
 replace zg7:IsZip g7 z TI TO (rawInt g5.objs.size):=zg7
 refine Qe2 zg7 (by simp) λg8 zg8 k8=> ?_
 replace zg8:IsZip g8 z TI TO (rawInt g5.objs.size):=zg8
 have up:∀c o,c≠z->g5.get? c=some o->g8.get? c=some o:=λc o c1 e=>k8.extBut _ _ c1 (k7.extBut _ _ c1 (Lt _ e));have pT:IsPair g8 g5.objs.size x y:=k8.extBut _ _ (ne_of_gt zlt) (k7.extBut _ _ (ne_of_gt zlt) (Qa5 _ rfl));rw[sz] at zg8 pT;refine Qa0 ⟨_,rfl,?_⟩;show Q (.ref g5.objs.size) _;rw[sz];exact hQ g8 _ x y px py zg8 (up _ _ D.a2 pO5) (D1.frame _ _ _ u1 λc hc o e=>up c o (λq=>D.b2 (q▸hc)) e) (D2.frame _ _ _ u2 λc hc o e=>up c o (λq=>D.b3 (q▸hc)) e) pT λc o c1 c2 c3 c4 e=>up c o c1 (kk c o c1 c2 c3 c4 e)
theorem zip_endD{k:Nat}{a b:Value}{Q:Fin->Shared->Prop}(D:ZAp z TI TO i1 i2 f1 f2)(D1:Draws prog w A i1 f1 n1 P1 S1)(D2:Draws prog w A i2 f2 n2 P2 S2)(hZ:IsZip s.heap z TI TO .none)(pI:IsPair s.heap TI (.ref i1) (.ref i2))(pO:IsPair s.heap TO a b)(t1:S1 k s.heap)(t2:S2 k s.heap)(hend:k=n1\/(k<n1/\k=n2))(hE:∀h' tk e,(∀c o,c≠z->c≠TO->c≠i1->c≠i2->s.heap.get? c=some o->h'.get? c=some o)->(∃o,h'.get? e=some o/\o.cls= .type "StopIteration")->E (.ref e) {s with heap:=h',toks:=tk}):
  wpAny (model prog w) A (Builtin.«zip.__next__» ⟨[.ref z],[]⟩) Q E s:=by
 show wpAny _ _ (field (.ref z) 2 >>=λ_=>_) _ _ _;refine Gt (Qb6 hZ rfl (x:= .bool false) rfl ?_);show wpAny _ _ (field (.ref z) 3 >>=λ_=>_) _ _ _;refine Gt (Qb6 hZ rfl (x:= .ref TI) rfl ?_);refine Gt (Qd2 pI rfl ?_);show wpAny _ _ (Builtin.SmallTypes.ownedTupleIsFree (.ref z) >>=λ_=>_) _ _ _;refine Gt ?_;unfold Builtin.SmallTypes.ownedTupleIsFree;refine Gt (Qb6 hZ rfl (x:= .none) rfl (Qa0 ?_));simp only[Qe7];refine Gt (Qd5 (Gt (Qb6 hZ rfl (x:= .ref TO) rfl ?_)));refine Gt (Qe2 hZ (by simp) λg1 zg1 k1=> ?_)
 replace zg1:IsZip g1 z TI TO .ellipsis:=zg1
 refine Gt ?_;simp only[List.zipIdx_cons,List.zipIdx_nil,forIn_cons,forIn_nil];refine Gt (Gt (wpAny_onRaise ?_));show wpAny _ _ (Builtin.SmallTypes.nextOf (.ref i1) >>=λ_=>_) _ _ _;have t1':S1 k g1:=D1.frame _ _ _ t1 λc hc o e=>k1.extBut _ _ (λq=>D.b2 (q▸hc)) e;rcases hend with rfl|⟨l1,rfl⟩
 ·refine Gt (D1.done _ _ _ t1' λg2 e k2 he=> ?_);obtain⟨oe,ge,ce⟩:=he;have zg2:IsZip g2 z TI TO .ellipsis:=k2 _ _ D.a3.symm zg1;have ne:e≠z:=λq=>by subst q;rw[zg2] at ge;cases ge;simp at ce
  exact Qe2 zg2 (by simp) λg3 _ k3=>hE g3 _ e (λc o c1 _ c3 _ q=>k3.extBut _ _ c1 (k2 _ _ c3 (k1.extBut _ _ c1 q))) ⟨oe,k3.extBut _ _ ne ge,ce⟩
 ·refine Gt (D1.item k _ _ _ l1 t1' λx g2 tk2 px sg2 k2=>Qa0 ?_);have pO2:IsPair g2 TO a b:=k2.extBut _ _ D.a8 (k1.extBut _ _ D.a2 pO);refine Gt (Qd2 pO2 rfl (Gt (wpAny_updateSeq_pair pO2 λg3 pO3 k3=> ?_)));refine Gt (wpAny_letGo (Qa0 (Gt (Gt (wpAny_onRaise ?_)))));show wpAny _ _ (Builtin.SmallTypes.nextOf (.ref i2) >>=λ_=>_) _ _ _;have t2':S2 k g3:=D2.frame _ _ _ t2 λc hc o e=>k3.extBut _ _ (λq=>D.b5 (q▸hc)) (k2.extBut _ _ (λq=>D.b6 (q▸hc)) (k1.extBut _ _ (λq=>D.b3 (q▸hc)) e));refine Gt (D2.done _ _ _ t2' λg4 e k4 he=> ?_);obtain⟨oe,ge,ce⟩:=he;have zg4:IsZip g4 z TI TO .ellipsis:=k4 _ _ D.a4.symm (k3.extBut _ _ D.a2.symm (k2.extBut _ _ D.a3.symm zg1));have ne:e≠z:=λq=>by subst q;rw[zg4] at ge;cases ge;simp at ce
  exact Qe2 zg4 (by simp) λg5 _ k5=>hE g5 _ e (λc o c1 c2 c3 c4 q=>k5.extBut _ _ c1 (k4 _ _ c4 (k3.extBut _ _ c2 (k2.extBut _ _ c3 (k1.extBut _ _ c1 q))))) ⟨oe,k5.extBut _ _ ne ge,ce⟩
end
section
variable{prog:Program}{w:World}{A:Around}{E:Value->Shared->Prop}{s:Shared}{z TI TO i1 i2:Addr}{f1 f2:List Addr}{n1 n2:Nat}{P1 P2:Nat->Value->Prop}{S1 S2:Nat->Heap->Prop}
theorem E4{k:Nat}{a b:Value}{Q:Option Value->Shared->Prop}(D:ZAp z TI TO i1 i2 f1 f2)(D1:Draws prog w A.in1 i1 f1 n1 P1 S1)(D2:Draws prog w A.in1 i2 f2 n2 P2 S2)(hZ:IsZip s.heap z TI TO .none)(pI:IsPair s.heap TI (.ref i1) (.ref i2))(pO:IsPair s.heap TO a b)(t1:S1 k s.heap)(t2:S2 k s.heap)(l1:k<n1)(l2:k<n2)(hQ:∀h' tk x y,P1 k x->P2 k y->IsZip h' z TI TO (rawInt s.heap.objs.size)->IsPair h' TO x y->S1 (k+1) h'->S2 (k+1) h'->IsPair h' s.heap.objs.size x y->
   (∀c o,c≠z->c≠TO->c≠i1->c≠i2->s.heap.get? c=some o->h'.get? c=some o)->Q (some (.ref s.heap.objs.size)) {s with heap:=h',toks:=tk}):
  wpAny (model prog w) A (pyNext (.ref z)) Q E s:=by
 have tz:s.TypeIs (.ref z) "zip":=⟨_,hZ,rfl⟩
 unfold pyNext;exact Gt (wpAny_attempt (Qc1 (name:=Str.ofString "__next__") tz F.slot_zip_next (Qd0 F.slot_zip_next tz F.entry_zip_next
   (W0 D D1 D2 hZ pI pO t1 t2 l1 l2 λh' tk x y a1 a2 a3 a4 a5 a6 a7 a8=>Qa0 (hQ h' tk x y a1 a2 a3 a4 a5 a6 a7 a8)) (F.args_zip_next_1 _))))
theorem Fs{k:Nat}{a b:Value}{Q:Option Value->Shared->Prop}(D:ZAp z TI TO i1 i2 f1 f2)(D1:Draws prog w A.in1 i1 f1 n1 P1 S1)(D2:Draws prog w A.in1 i2 f2 n2 P2 S2)(hZ:IsZip s.heap z TI TO .none)(pI:IsPair s.heap TI (.ref i1) (.ref i2))(pO:IsPair s.heap TO a b)(t1:S1 k s.heap)(t2:S2 k s.heap)(hend:k=n1\/(k<n1/\k=n2))(hQ:∀h' tk,(∀c o,c≠z->c≠TO->c≠i1->c≠i2->s.heap.get? c=some o->h'.get? c=some o)->Q none {s with heap:=h',toks:=tk}):
  wpAny (model prog w) A (pyNext (.ref z)) Q E s:=by
 have tz:s.TypeIs (.ref z) "zip":=⟨_,hZ,rfl⟩
 unfold pyNext;refine Gt (wpAny_attempt (Qc1 (name:=Str.ofString "__next__") tz F.slot_zip_next (Qd0 F.slot_zip_next tz F.entry_zip_next (zip_endD D D1 D2 hZ pI pO t1 t2 hend λh' tk e hk he=> ?_) (F.args_zip_next_1 _))));obtain⟨o,ho,hc⟩:=he;exact Gt (wpAny_isInstance (T:="StopIteration") (b:=true) ⟨o,ho,hc⟩ isSubtype_stop (Qa0 (hQ _ _ hk)))
end
abbrev zT1(h:Heap)(a:Addr):Heap:=h.push {cls:= .type "tuple_iterator",data:= .fields #[.ref a,.int 0 0]}
abbrev zT2(h:Heap)(a b:Addr):Heap:=(zT1 h a).push {cls:= .type "tuple_iterator",data:= .fields #[.ref b,.int 0 0]}
abbrev zT3(h:Heap)(a b:Addr):Heap:=(zT2 h a b).push {cls:= .type "tuple",data:= .seq #[.ref h.objs.size,.ref (zT1 h a).objs.size]}
abbrev zT4(h:Heap)(a b:Addr):Heap:=(zT3 h a b).push {cls:= .type "tuple",data:= .seq #[.none,.none]}
abbrev zT5(h:Heap)(a b:Addr):Heap:=(zT4 h a b).push {cls:= .type "zip",data:= .fields #[.none,.bool false,.bool false,.ref (zT2 h a b).objs.size,.ref (zT3 h a b).objs.size]}
theorem Qb(a b:Addr)(xs ys:Array Value):
  Meets (Builtin.«zip.__new__» ⟨[.type "zip",.ref a,.ref b],[]⟩) (λ_ R s=>s.heap.IsTuple a xs/\s.heap.IsTuple b ys/\R (.ok (.ret (.ref (zT4 s.heap a b).objs.size))) {s with heap:=zT5 s.heap a b}):=
 .of_wp λprog w A R s h=>by
  obtain⟨hp,g,d,tk,os⟩:=s;obtain⟨ta,tb,h⟩:=h;have hsub:=sub_zip;have q1:IsTuple (Shared.heap ⟨hp,g,d,tk,os⟩) a xs:=ta;have q2:IsTuple (Shared.heap ⟨hp.push {cls:= .type "tuple_iterator",data:= .fields #[.ref a,.int 0 0]},g,d,tk,os⟩) b ys:=let ⟨o,ho,r⟩:=tb;⟨o,Lt _ ho,r⟩
  wp_walk using Qf0 q1,Qf0 q2
  exact⟨_,rfl,h⟩
section
variable{prog:Program}{w:World}{A:Around}{E:Value->Shared->Prop}{s:Shared}
theorem Ro{a b:Addr}{xs ys:Array Value}{Q:Value->Shared->Prop}(ta:s.heap.IsTuple a xs)(tb:s.heap.IsTuple b ys)(h:∀h',IsZip h' (s.heap.objs.size+4) (s.heap.objs.size+2) (s.heap.objs.size+3) .none->IsPair h' (s.heap.objs.size+2) (.ref s.heap.objs.size) (.ref (s.heap.objs.size+1))->IsPair h' (s.heap.objs.size+3) .none .none->
   h'.IsTupleIter s.heap.objs.size a 0->h'.IsTupleIter (s.heap.objs.size+1) b 0->(∀c o,s.heap.get? c=some o->h'.get? c=some o)->Q (.ref (s.heap.objs.size+4)) {s with heap:=h'}):
  wpAny (model prog w) A (call (.type "zip") [.ref a,.ref b]) Q E s:=by
 refine callType_new F.called_zip (by decide) (F.typeCall_zip_2 _ _) (F.newCall_zip_2 _ _) (λobj=>F.args_object_init_3 obj _ _) F.entry_zip_new (Qb a b xs ys) ⟨ta,tb,?_⟩;have y1:(zT1 s.heap a).objs.size=s.heap.objs.size+1:=size_push ..;have y2:(zT2 s.heap a b).objs.size=s.heap.objs.size+2:=by rw[size_push,y1]
 have y3:(zT3 s.heap a b).objs.size=s.heap.objs.size+3:=by rw[size_push,y2]
 have y4:(zT4 s.heap a b).objs.size=s.heap.objs.size+4:=by rw[size_push,y3]
 have e5:(zT5 s.heap a b).get? (zT4 s.heap a b).objs.size=some _:=Qa5 _ rfl;have e4:(zT5 s.heap a b).get? (zT3 s.heap a b).objs.size=some _:=Lt _ (Qa5 _ rfl);have e3:(zT5 s.heap a b).get? (zT2 s.heap a b).objs.size=some _:=Lt _ (Lt _ (Qa5 _ rfl));have e2:(zT5 s.heap a b).get? (zT1 s.heap a).objs.size=some _:=Lt _ (Lt _ (Lt _ (Qa5 _ rfl)));have e1:(zT5 s.heap a b).get? s.heap.objs.size=some _:=Lt _ (Lt _ (Lt _ (Lt _ (Qa5 _ rfl))));show _/\_;rw[y2,y3,y4] at e5;rw[y1,y2] at e3;rw[y3] at e4;rw[y1] at e2;rw[y4];refine⟨⟨_,e5,rfl⟩,h _ e5 e3 e4 ⟨_,e1,rfl,rfl⟩ ⟨_,e2,rfl,rfl⟩ λc o e=> ?_⟩;exact Lt _ (Lt _ (Lt _ (Lt _ (Lt _ e))))
end
end PySem
namespace L2
open PySem PySem.Spec PyProof.Rows
def Itz(K:Frag)(a b:Addr):It:=
 ⟨λi H=>∃xs ys x y,SqT K H a xs/\SqT K H b ys/\xs[i]? =some x/\ys[i]? =some y,λi H v H'=>∃T x y,H T=none/\v= .ref T/\H'=upd H T (.tup [x,y])/\(∀xs,SqT K H a xs->xs[i]? =some x)/\∀ys,SqT K H b ys->ys[i]? =some y,
  λi H=>∃xs ys,SqT K H a xs/\SqT K H b ys/\(i=xs.length\/(i<xs.length/\i=ys.length))⟩
theorem Td{z TI TO i1 i2 a b:Addr}(nd:[z,TI,TO,i1,i2].Nodup)(na:a ∉ [z,TI,TO,i1,i2])(nb:b ∉ [z,TI,TO,i1,i2]):ZAp z TI TO i1 i2 [i1,a] [i2,b]:=by
 simp only[Qd3,Qa6,Qd9,or_false,not_or,nodup_nil,and_true,not_false_eq_true] at nd na nb;obtain⟨⟨q1,q2,q3,q4⟩,⟨q5,q6,q7⟩,⟨q8,q9⟩,q10⟩:=nd;obtain⟨r1,r2,r3,r4,r5⟩:=na;obtain⟨s1,s2,s3,s4,s5⟩:=nb;constructor<;> first|exact Ne.symm ‹_›|assumption|(simp only[Qa6,Qd9,or_false,not_or];constructor<;> first|assumption|exact Ne.symm ‹_›)
theorem Zy{P:Program}{w:World}{K:Frag}{elts:List Expr}{x1}{pos:Pos}(a b z TI TO i1 i2:Addr)(nd:[z,TI,TO,i1,i2].Nodup)(na:a ∉ [z,TI,TO,i1,i2])(nb:b ∉ [z,TI,TO,i1,i2]):U2 P w K (.Tuple elts x1 pos) (Itz K a b) [z,TI,TO,i1,i2] z
  (λi h=>IsZip h z TI TO .none/\IsPair h TI (.ref i1) (.ref i2)/\(∃u v,IsPair h TO u v)/\h.IsTupleIter i1 a i/\h.IsTupleIter i2 b i) where
 mem:=by simp
 obj:=λi h st c hc=>by
  obtain⟨h1,h2,⟨u,v,h3⟩,⟨o4,g4,_,d4⟩,⟨o5,g5,_,d5⟩⟩:=st;simp only[Qa6,Qd9,or_false] at hc;rcases hc with rfl|rfl|rfl|rfl|rfl
  ·exact⟨_,h1,λv q=>by cases q⟩
  ·exact⟨_,h2,λv q=>by cases q⟩
  ·exact⟨_,h3,λv q=>by cases q⟩
  ·exact⟨_,g4,λv q=>by rw[d4] at q;cases q⟩
  ·exact⟨_,g5,λv q=>by rw[d5] at q;cases q⟩
 keep:=λi h h' st k=>by
  obtain⟨h1,h2,⟨u,v,h3⟩,h4,h5⟩:=st;exact⟨k z (by simp) _ h1,k TI (by simp) _ h2,⟨u,v,k TO (by simp) _ h3⟩,h4.at λo q=>k i1 (by simp) o q,h5.at λo q=>k i2 (by simp) o q⟩
 item:=by
  intro X hP hw hK hc i pins s σ H E I hf st hg;subst hP hw hK;obtain⟨hZ,pI,⟨u,v,pO⟩,t1,t2⟩:=st;obtain⟨xs,ys,x,y,ha,hb,hx,hy⟩:=hg;obtain⟨its,rv,p1,_⟩:=I.tuple ha;obtain⟨jts,rw',p2,_⟩:=I.tuple hb;obtain⟨ux,hux,rx⟩:=rv.get hx;obtain⟨uy,huy,ry⟩:=rw'.get hy;have AP:=Td nd na nb;have fresh:H s.heap.objs.size=none:=I.hok.fresh (le_refl _);have ltz:∀c∈[z,TI,TO,i1,i2],c≠s.heap.objs.size:=by
   intro c hc;obtain⟨o4,g4,_⟩:=id t1;obtain⟨o5,g5,_⟩:=id t2;simp only[Qa6,Qd9,or_false] at hc;rcases hc with rfl|rfl|rfl|rfl|rfl
   ·exact ne_of_lt (Qa7 hZ)
   ·exact ne_of_lt (Qa7 pI)
   ·exact ne_of_lt (Qa7 pO)
   ·exact ne_of_lt (Qa7 g4)
   ·exact ne_of_lt (Qa7 g5)
  refine E4 AP (Draws.tup (A:=X.A.in1) (I.ok.hd hc) i1 a (λq=>na (by simp[q])) its.toArray) (Draws.tup (A:=X.A.in1) (I.ok.hd hc) i2 b (λq=>nb (by simp[q])) jts.toArray) hZ pI pO ⟨t1,p1⟩ ⟨t2,p2⟩
   (by have:=(List.getElem?_eq_some_iff.mp hux).1;simpa using this) (by have:=(List.getElem?_eq_some_iff.mp huy).1;simpa using this) λh' tk xv yv px py z' pO' s1' s2' pT kk=>⟨_,rfl,?_⟩
  have ex:ux=xv:=Option.some.inj (hux.symm.trans (by simpa using px));have ey:uy=yv:=Option.some.inj (huy.symm.trans (by simpa using py));subst ex ey;refine wpAny_letOwnedTupleGo_zip (s:={s with heap:=h',toks:=tk}) z' λh2 z2 sb=> ?_;have I1:Inv X pins σ (upd H s.heap.objs.size (.tup [x,y])) {s with heap:=s.heap.push {cls:= .type "tuple",data:= .seq #[ux,uy]},toks:=s.toks}:=
   I.laid (o:= .tup [x,y]) (λb ob q=>Lt _ q) (le_refl _) ⟨by rw[Qb3];simp,[ux,uy],.cons rx (.cons ry .nil),IsTupN.new _ _⟩
  have I2:=I1.turnedL (h':=h2) (t':=tk) [z,TI,TO,i1,i2] (λc o hc' q=> ?_) (λc hc'=>(hf c hc').up (ltz c hc'))
  ·refine⟨.ref s.heap.objs.size,_,I2,rfl,⟨_,x,y,fresh,rfl,rfl,λys' hy'=>by rw[I.tuple_inj hy' ha];exact hx,λys' hy'=>by rw[I.tuple_inj hy' hb];exact hy⟩,
    ⟨z2,(sb.2 TI AP.a1).trans (kk _ _ AP.a1 AP.a5 AP.a6 AP.a7 pI),⟨_,_,(sb.2 TO AP.a2).trans pO'⟩,s1'.1.at λo q=>(sb.2 i1 AP.a3).trans q,s2'.1.at λo q=>(sb.2 i2 AP.a4).trans q⟩,λc hc'=> ?_⟩
   rw[Ai (ltz c hc')];exact(hf c hc').1
  ·have c1:c≠z:=λq=>hc' (by simp[q]);have c2:c≠TO:=λq=>hc' (by simp[q]);have c3:c≠i1:=λq=>hc' (by simp[q]);have c4:c≠i2:=λq=>hc' (by simp[q]);refine(sb.2 c c1).trans ?_;by_cases hcs:c=s.heap.objs.size
   ·subst hcs;rw[Qa5 _ rfl] at q;cases q;exact pT
   ·rw[Qg7 _ _ _ hcs] at q;exact kk c o c1 c2 c3 c4 q
 done:=by
  intro X hP hw hK hc i pins s σ H E I hf st hg;subst hP hw hK;obtain⟨hZ,pI,⟨u,v,pO⟩,t1,t2⟩:=st;obtain⟨xs,ys,ha,hb,hend⟩:=hg;obtain⟨its,rv,p1,_⟩:=I.tuple ha;obtain⟨jts,rw',p2,_⟩:=I.tuple hb;have AP:=Td nd na nb;have l1:=rv.length;have l2:=rw'.length;refine Fs AP (Draws.tup (A:=X.A.in1) (I.ok.hd hc) i1 a (λq=>na (by simp[q])) its.toArray) (Draws.tup (A:=X.A.in1) (I.ok.hd hc) i2 b (λq=>nb (by simp[q])) jts.toArray) hZ pI pO ⟨t1,p1⟩ ⟨t2,p2⟩
   (by simp only[size_toArray];omega) λh' tk kk=>⟨rfl,I.turnedL (t':=tk) [z,TI,TO,i1,i2] (λc o hc' q=> ?_) hf⟩
  exact kk c o (λq=>hc' (by simp[q])) (λq=>hc' (by simp[q])) (λq=>hc' (by simp[q])) (λq=>hc' (by simp[q])) q
 self:=λA i s Q E st h=>wpAny_pyIter_zip st.1 h
def iZip(K:Frag)(ta:TA):TI:=λσ H R=>ta σ H λvs H1=>∃a b xs ys,vs=[.ref a,.ref b]/\SqT K H1 a xs/\SqT K H1 b ys/\R (Itz K a b) H1
theorem pi_zip{X:Cx}{elts:List Expr}{x1}{tpos:Pos}{e1 e2:Expr}{ta:TA}{p pos:Pos}(hg:Gl X "zip")(hm:X.mg "zip"=none)(ha:PA X [e1,e2] ta)(hs:starEach [e1,e2] X.env=[(false,eval e1 X.env),(false,eval e2 X.env)]:=by rfl)(hs2:starEach [e2] X.env=[(false,eval e2 X.env)]:=by rfl):
  PI X (.Tuple elts x1 tpos) (.Call (.Name "zip" p) [e1,e2] [] pos) (iZip X.K ta):=by
 intro pins s σ H R I h;refine Call_ (Dz I hg hm (show bootBuiltins "zip"=some (.type "zip") by decide+kernel) (PyProof.Rows.callWith_type1 (thn (ha pos pins s σ H _ I h) λus s1 ⟨vs,H1,I1,r1,q1⟩=> ?_) (by rw[hs,hs2]) (by rw[hs2];rfl)));obtain⟨a,b,xs,ys,e,hqa,hqb,q⟩:=q1;subst e;cases r1 with
 |cons r rr=>
  cases rr with
  |cons r' rr=>
   cases rr;cases r;cases r';obtain⟨its,rv,p1,_⟩:=I1.tuple hqa;obtain⟨jts,rw',p2,_⟩:=I1.tuple hqb;refine Ro p1 p2 λh' hZ pI pO t1 t2 kk=>wpAny_pyIter_zip hZ ?_;obtain⟨oa,ga,_⟩:=id p1;obtain⟨ob,gb,_⟩:=id p2;have la:=Qa7 ga;have lb:=Qa7 gb;have big:∀c∈[s1.heap.objs.size+4,s1.heap.objs.size+2,s1.heap.objs.size+3,s1.heap.objs.size,s1.heap.objs.size+1],s1.heap.objs.size<=c:=by
    intro c hc;simp only[Qa6,Qd9,or_false] at hc;rcases hc with rfl|rfl|rfl|rfl|rfl<;> first|exact le_add_right _ _|exact le_refl _
   refine⟨s1.heap.objs.size+4,[s1.heap.objs.size+4,s1.heap.objs.size+2,s1.heap.objs.size+3,s1.heap.objs.size,s1.heap.objs.size+1],_,_,H1,rfl,I1.kept (t':=s1.toks) kk,
    Zy a b _ _ _ _ _ ?_ (λq=>lt_irrefl _ (lt_of_lt_of_le la (big _ q))) (λq=>lt_irrefl _ (lt_of_lt_of_le lb (big _ q))),⟨hZ,pI,⟨_,_,pO⟩,t1,t2⟩,λc hc=>I1.fpOk (big c hc) (I1.hok.fresh (big c hc)),q⟩
   generalize s1.heap.objs.size=n;show Nodup ([n+4,n+2,n+3,n,n+1]:List Nat);simp
section
variable{g:TG}{ti:TT}{te:TE}{Q:VK}{D:Addr}{σ:St}{H:Hp}
theorem comp_zip{K:Frag}{a b:Addr}{xs ys:List V}(Pv:Nat->St->List V->Hp->Prop)(h0:Pv 0 σ [] (upd H D (.lst [])))(hl:∀i σ zs H,i<=xs.length->i<=ys.length->Pv i σ zs H->SqT K H a xs/\SqT K H b ys/\H D=some (.lst zs))(hs:∀i x y σ zs H T,xs[i]? =some x->ys[i]? =some y->Pv i σ zs H->H T=none->Mw g ti te D (.ref T) σ zs (upd H T (.tup [x,y])) (Pv (i+1)))(hd:∀i σ zs H,i=min xs.length ys.length->Pv i σ zs H->Q (.ref D) H):
  cgo (Itz K a b) g ti te D σ H Q:=by
 refine⟨λi m σ zs H=>m=xs.length - i/\i<=xs.length/\i<=ys.length/\Pv i σ zs H,⟨xs.length,by simp,Qc5 _,Qc5 _,h0⟩,?_⟩;rintro i m σ zs H ⟨rfl,hi,hj,p⟩;obtain⟨q1,q2,hD⟩:=hl i σ zs H hi hj p;refine⟨hD,?_⟩;by_cases hlt:i<xs.length/\i<ys.length
 ·refine .inr ⟨⟨xs,ys,xs[i],ys[i],q1,q2,by simp[hlt.1],by simp[hlt.2]⟩,Pv (i+1),λσ' ys' H' p'=>⟨xs.length - (i+1),by omega,rfl,hlt.1,hlt.2,p'⟩,λx H' y=> ?_⟩;obtain⟨T,x,y,hT,rfl,rfl,y1,y2⟩:=y;exact hs i x y σ zs H T (y1 xs q1) (y2 ys q2) p hT
 ·exact .inl ⟨⟨xs,ys,q1,q2,by omega⟩,hd i σ zs H (by omega) p⟩
end
end L2
namespace HT
open PySem PyProof.Rows
section
variable{prog:Program}{w:World}{A:Around}{E:Value->Shared->Prop}{s:Shared}
theorem getItem_tuple_self{t sl:Addr}{items:Array Value}{vl vu:Value}{lo hi:Option Int}{Q:Value->Shared->Prop}(ht:IsTup s.heap t items)(hs:s.heap.IsSliceOf sl vl vu .none)(pl:IsPart vl lo)(pu:IsPart vu hi)(hw:sIx items.size 0 lo=0/\sIx items.size items.size hi=items.size)(h:Q (.ref t) s):wpAny (model prog w) A (getItem (.ref t) (.ref sl)) Q E s:=by
 obtain⟨os,hos,hcs,hds⟩:=id hs;have tsl:s.TypeIs (.ref sl) "slice":=⟨os,hos,hcs⟩
 unfold getItem
 try with_reducible refine Qb9 ?_
 first|refine Gt (Qa0 ?_)|skip
 refine Gt (wpAny_sequenceKey ht.typeIs (by decide) (Gt (Qc1 (name:=Str.ofString "__getitem__") ht.typeIs PyProof.Rows.slot_tuple_getitem (Qd0 PyProof.Rows.slot_tuple_getitem ht.typeIs entry_tuple_getitem ?_ (args_tuple_getitem _ _)))));show wpAny _ _ (Builtin.Tuple.tupleItemsOf (.ref t) >>=λ_=>_) _ _ s;refine Gt (tupleItemsOf_ ht (Gt (Qc8 tsl ?_)));rw[Qa2 (by decide)];refine Gt (Fc hs pl pu ?_);have yes:(((sIx items.size 0 lo:Nat):Int)==0 && (1:Int)==1 && (sIx items.size items.size hi - sIx items.size 0 lo)==items.size)=true:=by rw[hw.1,hw.2];simp
 show wpAny _ _ (ite ((((sIx items.size 0 lo:Nat):Int)==0 && (1:Int)==1 && (sIx items.size items.size hi - sIx items.size 0 lo)==items.size)=true) _ _) _ _ s;rw[Qa2 yes];refine Gt (m:=Builtin.Tuple.tupleIsExact (.ref t)) ?_;unfold Builtin.Tuple.tupleIsExact;refine Gt (Qc8 ht.typeIs (Qa0 ?_));rw[Qa2 (by decide)];exact Gt (Qd5 (Qa0 ⟨_,rfl,Qa0 h⟩))
end
end HT
namespace L2
open PySem PySem.Spec PyProof.Rows
section
variable{X:Cx}
inductive RSlTAP(K:Frag)(x:V)(lo:Option Int)(hi:Option Int)(H:Hp)(Q:VK):Prop
 |mk (a xs:_):(x= .ref a)->(SqT K H a xs)->(((HT.sIx xs.length 0 lo=0/\HT.sIx xs.length xs.length hi=xs.length)->Q (.ref a) H))->((¬(HT.sIx xs.length 0 lo=0/\HT.sIx xs.length xs.length hi=xs.length)->∀p,H p=none->Q (.ref p) (upd H p (.tup (Ee xs lo hi)))))->RSlTAP K x lo hi H Q
def Lo(K:Frag):V->Option Int->Option Int->Hp->VK->Prop:=λx lo hi H Q=>RSlTAP K x lo hi H Q
theorem El:SlR X (Lo X.K):=by
 intro pins s σ H x v vl vu lo hi sl Q I rx hs pl pu h;obtain⟨a,xs,rfl,hx,q1,q2⟩:=h;by_cases hw:HT.sIx xs.length 0 lo=0/\HT.sIx xs.length xs.length hi=xs.length
 ·cases rx;obtain⟨its,r,ht,hz⟩:=I.tuple hx;have hlen:its.toArray.size=xs.length:=by rw[size_toArray];exact r.length.symm
  exact⟨"tuple",_,PyProof.Rows.slot_tuple_getitem.lookup,ht.typeIs,HT.getItem_tuple_self ht hs pl pu (by rw[hlen];exact hw) ⟨.ref a,H,I,rfl,q1 hw⟩⟩
 ·exact Y0 pins s σ H _ v vl vu lo hi sl Q I rx hs pl pu ⟨a,xs,rfl,hx,hw,q2 hw⟩
end
theorem Ac{H:Hp}{p:Addr}{o:HO}(h:H p=none):Same H (upd H p o):=λb u e=>by rw[Ai (Al e h)];exact e
theorem Cw(H:Hp):Same H H:=λ_ _ e=>e
theorem small{n:Nat}(h:n<=10000):n<=sizeLine:=by rw[Qb3];exact le_trans (by assumption) (by decide)
theorem none_of{H H':Hp}{a:Addr}(s:Same H H')(h:H' a=none):H a=none:=by
 cases e:H a with
 |none=>rfl
 |some o=>rw[s _ _ e] at h;cases h
theorem Fk{X:Cx}{es:List Expr}{k:Nat}{t:TGs}{pos:Pos}(K:Frag)(n:Nat)(hK:X.K=K)(hc:X.calm=true)(h:PGs X es t)(hn:(assignEach es X.env).length=n:=by rfl)(hst:(assignEach es X.env).findIdx? (·.1)=none:=by rfl):PG X (.Tuple es k pos) (gTup K n t):=by
 subst hK;exact C8 hc h hn hst
end L2
namespace PySem
open Builtin
section
variable{prog:Program}{w:World}{A:Around}{E:Value->Shared->Prop}{s:Shared}
theorem Rt{Q:List Value->Shared->Prop}{r:Addr}{a b c:Int}{t u v:Tok}{n:Nat}(hh:A.handled=none)(hr:IsRange s.heap r a b c t u v)(hsmall:Builtin.Range.small a b c=true)(hn:Builtin.Range.rangeSize a b c=n)(hlen:n<=2 ^ 24)(hQ:∀(h':Heap) (tk:Nat) (acc:Array Value),(∀b o,s.heap.get? b=some o->h'.get? b=some o)->ItemsOf (λi v=>∃t,v= .int (a+i * c) t) acc n->Q acc.toList {s with heap:=h',toks:=tk}):wpAny (model prog w) A (collect (.ref r)) Q E s:=by
 unfold collect;refine Gt (wpAny_runValue (Qe4 F.entry_proto_collect ?_));rw[Around.under_plainId F.plain_proto_collect _];show wpAny _ A.in1 (newList [] >>=λl=>again (.builtin "list.__iadd__" ⟨[l,.ref r],[]⟩)) _ _ s;refine Gt (Qc0 (Qa0 ⟨plainId_quiet F.plain_list_iadd _,Qe4 F.entry_list_iadd ?_⟩));rw[Around.under_plainId F.plain_list_iadd _];show wpAny _ A.in1 (Builtin.List.listExtendWith (.ref s.heap.objs.size) (.ref r) (.ref s.heap.objs.size)) _ _ _;have oS:(s.heap.push {cls:= .type "list",data:= .seq ([]:List Value).toArray}).get? s.heap.objs.size=some {cls:= .type "list",data:= .seq ([]:List Value).toArray}:=Qa5 _ rfl;have key:=wpAny_extend_range (prog:=prog) (w:=w) (A:=A) (s:={s with heap:=s.heap.push {cls:= .type "list",data:= .seq ([]:List Value).toArray}})
  (R:=λr' s'=>∃(h':Heap) (tk:Nat) (acc:Array Value) (c':Nat),r'= .ok (.ret (.ref s.heap.objs.size))/\s'={s with heap:=h',toks:=tk}/\(∀b o,s.heap.get? b=some o->h'.get? b=some o)/\h'.get? s.heap.objs.size=some {cls:= .type "list",dict:=none,data:= .seq acc c',slots:= #[]}/\ItemsOf (λi v=>∃t,v= .int (a+i * c) t) acc n)
  hh (Lt _ hr) hsmall hn hlen s.heap.objs.size (.ref s.heap.objs.size) _ oS λh' tk acc' c' hk hS' hacc=>⟨h',tk,acc',c',rfl,rfl,λb o e=>hk b o (ne_of_lt (Qa7 e)) (Lt _ e),hS',hacc⟩
 have out:∀(r':Result) (s':Shared),(∃(h':Heap) (tk:Nat) (acc:Array Value) (c':Nat),r'= .ok (.ret (.ref s.heap.objs.size))/\s'={s with heap:=h',toks:=tk}/\(∀b o,s.heap.get? b=some o->h'.get? b=some o)/\h'.get? s.heap.objs.size=some {cls:= .type "list",dict:=none,data:= .seq acc c',slots:= #[]}/\ItemsOf (λi v=>∃t,v= .int (a+i * c) t) acc n)->
   ∃(acc:Array Value) (c':Nat),r'= .ok (.ret (.ref s.heap.objs.size))/\s'.heap.get? s.heap.objs.size=some {cls:= .type "list",dict:=none,data:= .seq acc c',slots:= #[]}/\Q acc.toList s':=by
  rintro r' s' ⟨h',tk,acc,c',e1,rfl,e3,e4,e5⟩;exact⟨acc,c',e1,e4,hQ h' tk acc e3 e5⟩
 refine Qe3 key (λfin s' hf=> ?_) λe s' he=> ?_
 ·cases fin with
  |done f=>
   obtain⟨acc,c',e1,e2,e3⟩:=out _ _ hf;cases e1;show wpAny _ A (load s.heap.objs.size >>=λ_=>_) _ _ _;exact Gt (wpAny_load e2 (Qa0 e3))
  |again c'=>
   refine⟨hf.1,Qg5 hf.2 λr' s' h'=> ?_⟩;obtain⟨acc,c',e1,e2,e3⟩:=out _ _ h';subst e1;show wpAny _ A (load s.heap.objs.size >>=λ_=>_) _ _ _;exact Gt (wpAny_load e2 (Qa0 e3))
 ·obtain⟨_,_,e1,_⟩:=out _ _ he;cases e1
end
theorem Ki(r:Addr)(a b c:Int)(t u v:Tok)(n:Nat)(hsmall:Builtin.Range.small a b c=true)(hn:Builtin.Range.rangeSize a b c=n)(hlen:n<=2 ^ 24)(hz:n<=sizeLine):
  Meets (Builtin.«tuple.__new__» ⟨[.type "tuple",.ref r],[]⟩)
   (λA R s=>A.handled=none/\IsRange s.heap r a b c t u v/\∀(h':Heap) (tk:Nat) (acc:Array Value),(∀b o,s.heap.get? b=some o->h'.get? b=some o)->ItemsOf (λi v=>∃t,v= .int (a+i * c) t) acc n->
    R (.ok (.ret (.ref h'.objs.size))) {s with heap:=h'.push {cls:= .type "tuple",data:= .seq acc},toks:=tk}):=
 .of_wp λprog w A R s h=>by
  obtain⟨hh,hr,h⟩:=h;have hsub:=sub_tuple_self;have hinit:=init_tuple_lookup;have hmh:=madeHere_tuple;have tr:s.TypeIs (.ref r) "range":=⟨_,hr,rfl⟩
  have hh1:A.in1.handled=none:=hh
  wp_walk using Qc8 tr,Rt hh1 hr hsmall hn hlen
  intro h' tk acc hk hacc;show wpAny _ _ (Builtin.Tuple.tupleExact acc.toList.toArray >>=λv=>ret v) _ _ _;unfold Builtin.Tuple.tupleExact;refine Gt (Qc0 ?_ (show acc.toList.toArray.size<=sizeLine by simp only[Array.toArray_toList];rw[hacc.1];exact hz));refine Qa0 ⟨_,rfl,?_⟩;have e:acc.toList.toArray=acc:=by simp
  rw[e];exact h h' tk acc hk hacc
section
variable{prog:Program}{w:World}{A:Around}{E:Value->Shared->Prop}{s:Shared}
theorem Kc{Q:Value->Shared->Prop}{r:Addr}{a b c:Int}{t u v:Tok}{n:Nat}(hh:A.handled=none)(hr:IsRange s.heap r a b c t u v)(hsmall:Builtin.Range.small a b c=true)(hn:Builtin.Range.rangeSize a b c=n)(hlen:n<=2 ^ 24)(hz:n<=sizeLine)(h:∀(h':Heap) (tk:Nat) (acc:Array Value),(∀b o,s.heap.get? b=some o->h'.get? b=some o)->ItemsOf (λi v=>∃t,v= .int (a+i * c) t) acc n->Q (.ref h'.objs.size) {s with heap:=h'.push {cls:= .type "tuple",data:= .seq acc},toks:=tk}):
  wpAny (model prog w) A (call (.type "tuple") [.ref r]) Q E s:=
 callType_new F.called_tuple (by decide) (F.typeCall_tuple_1 _) (F.newCall_tuple_1 _) (λobj=>F.args_object_init_2 obj _) F.entry_tuple_new (Ki r a b c t u v n hsmall hn hlen hz) ⟨hh,hr,λh' tk acc hk hacc=>⟨⟨_,Qa5 _ rfl,rfl⟩,h h' tk acc hk hacc⟩⟩
end
end PySem
namespace L2
open PySem PySem.Spec PyProof.Rows
section
variable{X:Cx}
theorem J6{i:Int}:∀{ns:List Int} {us:List Value},Vals (ns.map V.int) us->us.countP (λv=>match v with| .int j _=>j==i|_=>false)=ns.count i
 |[],_,.nil=>rfl
 |n::ns,_,.cons h t=>by
  obtain⟨u,rfl⟩:=h;rw[List.countP_cons,List.count_cons,J6 t]
inductive Rc(K:Frag)(x:V)(vs:List V)(H:Hp)(Q:VK):Prop
 |mk (a:Addr) (ns:List Int) (i:Int):(x= .ref a)->(vs=[.int i])->(SqT K H a (ns.map V.int))->(Q (.int (ns.count i:Nat)) H)->Rc K x vs H Q
def rCountT(K:Frag):V->List V->Hp->VK->Prop:=λx vs H Q=>Rc K x vs H Q
theorem Jj:MtM X "tuple.count" (rCountT X.K):=by
 intro pins s σ H x xs v us Q I rx r h;obtain⟨a,ns,i,rfl,rfl,ha,q⟩:=h;cases rx;obtain⟨u,rfl,⟨t,rfl⟩⟩:=Dg r;obtain⟨its,rv,p,hz⟩:=I.tuple ha;obtain⟨⟨cls,dd,data,sl⟩,ho,hc,n,hd⟩:=id p;simp only at hc hd;subst hc hd;refine Qg0 slot_tuple_count ⟨_,ho,rfl⟩ PySem.F.entry_tuple_count (PySem.F.args_tuple_count_2 _ _) (SeqAt.tuple_countAt a its.toArray n dd sl (.int i t) (λv=>match v with| .int j _=>j==i|_=>false)) ⟨ho,?_,?_⟩
 ·intro y hy;have hy:y∈its:=by simpa using hy
  have:∀{ns:List Int} {us:List Value},Vals (ns.map V.int) us->∀y∈us,∃j t',y= .int j t':=by
   intro ns us hv
   induction ns generalizing us with
   |nil=>cases hv;intro y hy;cases hy
   |cons n ns ih=>
    cases hv with
    |cons h tl=>
     intro y hy;rcases Qa6.mp hy with rfl|hy
     ·obtain⟨u,rfl⟩:=h;exact⟨n,u,rfl⟩
     ·exact ih tl y hy
  obtain⟨j,t',rfl⟩:=this rv y hy;exact SeqAt.EqAt.int_int j t' i t
 ·refine⟨.int _,H,I.tok _,⟨_,rfl⟩,?_⟩;have:=J6 (i:=i) rv;simp only[List.toList_toArray];rw[this];exact q
theorem Sx:Dv X (.type "range") (λxs H Q=>∃j:Int,xs=[.int j]/\∀l,H l=none->Q (.ref l) (upd H l (.rng 0 j))):=by
 intro pins s σ H xs us Q I r h;obtain⟨j,rfl,q⟩:=h;obtain⟨u,rfl,⟨t,rfl⟩⟩:=Dg r;exact call_range_1 ⟨.ref s.heap.objs.size,_,I.laid (o:= .rng 0 j) (λ_ _ q=>Lt _ q) (le_refl _) ⟨_,_,_,Qa5 _ rfl⟩,rfl,q _ I.fresh⟩
theorem vals_rng:∀(l:List Value) (k:Nat) (i:Int),(∀(n:Nat) (x:Value),l[n]? =some x->∃t,x= .int (i+n) t)->l.length=k->Vals ((Ft i k).map V.int) l:=by
 intro l
 induction l with
 |nil=>intro k i _ e;cases e;exact .nil
 |cons x l ih=>
  intro k i h e;cases k with
  |zero=>cases e
  |succ k=>
   have h0:=h 0 x rfl;have e1:Ft i (k+1)=i::Ft (i+1) k:=by
    simp only[Ft,List.range_succ_eq_map,Qb1,map_map];refine congr (Qc7 List.cons (by simp)) (map_congr_left λa _=> ?_);simp only[Function.comp];omega
   rw[e1];refine .cons (by obtain⟨t,q⟩:=h0;exact⟨t,by simpa using q⟩) (ih k (i+1) (λn y hy=> ?_) (by simpa using e));obtain⟨t,q⟩:=h (n+1) y (by simpa using hy);exact⟨t,by rw[q];congr 1;omega⟩
theorem Md(hc:X.calm=true):Dv X (.type "tuple") (λxs H Q=>∃(p:Addr) (j:Int),xs=[.ref p]/\H p=some (.rng 0 j)/\0<=j/\j<=1000/\∀l H',Same H H'->H' l=some (.tup ((Ft 0 j.toNat).map V.int))->Q (.ref l) H'):=by
 intro pins s σ H xs us Q I r h;obtain⟨p,j,rfl,hp,b1,b2,q⟩:=h;obtain⟨u,rfl,rx⟩:=Dg r;cases rx;obtain⟨t,u,v,ho⟩:=(show ObjOk X.prog X.w H s.heap p (.rng 0 j) from I.hok p _ hp)
 refine Kc (n:=j.toNat) (I.ok.hd hc) (show IsRange s.heap p 0 j 1 t u v from ho) (small_one (by decide) (by decide) (by omega) (by omega)) (by rw[rangeSize_one];split<;> omega) (by omega) (by rw[Qb3];omega) λh' tk acc hk hacc=> ?_;have I1:Inv X pins σ H {s with heap:=h',toks:=tk}:=I.kept hk;have fr:H h'.objs.size=none:=I1.hok.fresh (le_refl _);refine⟨.ref h'.objs.size,_,I1.laid (o:= .tup ((Ft 0 j.toNat).map V.int)) (t':=tk) (λb ob q=>Lt _ q) (le_refl _) ⟨by simp[Ft,Qb3];omega,acc.toList,?_,?_⟩,rfl,q _ _ (Ac fr) Ab⟩
 ·refine vals_rng acc.toList _ 0 (λn x hx=> ?_) (by simpa using hacc.1);obtain⟨t,q⟩:=hacc.2 n x (by simpa using hx);exact⟨t,by rw[q,Int.mul_one]⟩
 ·exact⟨_,Qa5 _ rfl,rfl,rfl,0,by simp⟩
end
end L2
namespace PySem
open Builtin
theorem Le:fillsNumberSlot (.type "tuple") "mul"=pure false:=fillsNumberSlot_seq (id:="tuple.__mul__") (r:=some (.builtin "tuple.__rmul__")) F.slot_tuple_mul.lookup (by decide+kernel) F.slot_tuple_rmul.lookup (by decide+kernel)
theorem Uz:seqRepeat? (.type "tuple")=pure (some (.builtin "tuple.__mul__")):=by
 unfold seqRepeat?;rw[seqSlot_of (T:="tuple") (name:="__mul__") (id:="tuple.__mul__") F.slot_tuple_mul.lookup (by decide+kernel),seqSlot_of (T:="tuple") (name:="__rmul__") (id:="tuple.__rmul__") F.slot_tuple_rmul.lookup (by decide+kernel)];rfl
theorem Qc(a:Int)(t:Tok)(l:Addr)(items:Array Value)(n:Nat)(dd:Option Addr)(sl:Array (Option Value)):
  Meets (Builtin.«int.__rmul__» ⟨[.int a t,.ref l],[]⟩) (λ_ R s=>s.heap.get? l=some {cls:= .type "tuple",dict:=dd,data:= .seq items n,slots:=sl}/\R (.ok (.ret Value.notImplemented)) s):=
 .of_wp λprog w A R s h=>by
  obtain⟨hp,g,d,tk,os⟩:=s;obtain⟨hl,h⟩:=h
  wp_walk
  exact⟨_,rfl,h⟩
theorem tup_mul(l:Addr)(items:Array Value)(n:Nat)(dd:Option Addr)(sl:Array (Option Value))(k:Int)(t:Tok)(hk:1<=k)(hk2:k<=1000)(h1:items.size=1):
  Meets (Builtin.«tuple.__mul__» ⟨[.ref l,.int k t],[]⟩) (λ_ R s=>s.heap.get? l=some {cls:= .type "tuple",dict:=dd,data:= .seq items n,slots:=sl}/\(k=1->R (.ok (.ret (.ref l))) s)/\
   (k≠1->R (.ok (.ret (.ref s.heap.objs.size))) {s with heap:=s.heap.push {cls:= .type "tuple",data:= .seq ((replicate k.toNat items).foldl (·++·) #[])}})):=
 .of_wp λprog w A R s h=>by
  obtain⟨hp,g,d,tk,os⟩:=s;obtain⟨hl,q1,q2⟩:=h;have f1:=AutoSeq1.idx_int;have b1:(decide (k< -(2 ^ 63))||decide (k ≥ 2 ^ 63))=false:=by rw[decide_eq_false (by omega),decide_eq_false (by omega)];rfl
  have b2:items.isEmpty=false:=by rw[Array.isEmpty];simp[h1]
  have hT:TypeIs ⟨hp,g,d,tk,os⟩ (.ref l) "tuple":=⟨_,hl,rfl⟩
  by_cases hk1:k=1
  ·subst hk1;have z:=q1 rfl
   wp_walk using AutoSeq1.wpAny_loadPart' hl,Qc8 hT
   exact⟨_,rfl,z⟩
  ·have z:=q2 hk1;have c1:(items.isEmpty||k==1)=false:=by rw[b2];simpa using hk1
   have c2:(decide (k<=0)||items.isEmpty)=false:=by rw[b2,decide_eq_false (by omega)];rfl
   have c3:¬((items.size:Int) * k > (2 ^ 63 - 1) / 8):=by rw[h1];omega
   have c4:Builtin.Tuple.tupleTooMany ((items.size:Int) * k)=false:=by unfold Builtin.Tuple.tupleTooMany;rw[h1,Qb3];exact decide_eq_false (by omega)
   wp_walk using AutoSeq1.wpAny_loadPart' hl,Qc8 hT
   rw[Qa1 (by rw[b1];decide)]
   wp_walk using AutoSeq1.wpAny_loadPart' hl,Qc8 hT
   rw[Qa1 (by rw[c2];decide)]
   wp_walk using AutoSeq1.wpAny_loadPart' hl,Qc8 hT
   rw[Qa1 c3]
   wp_walk using AutoSeq1.wpAny_loadPart' hl,Qc8 hT
   rw[Qa1 (by rw[c4];decide)];have len:((replicate k.toNat items).foldl (·++·) #[]).size<=sizeLine:=by
    have key:∀(m:Nat) (acc:Array Value),((replicate m items).foldl (·++·) acc).size=acc.size+m:=by
     intro m
     induction m with
     |zero=>intro acc;rfl
     |succ m ih=>intro acc;rw[replicate_succ,foldl_cons,ih,Array.size_append,h1];omega
    rw[key,Qb3];simp;omega
   refine Gt (m:=Builtin.Tuple.tupleExact _) ?_;unfold Builtin.Tuple.tupleExact;exact Qc0 (Qa0 ⟨_,rfl,z⟩) len
end PySem
namespace L2
open PySem PySem.Spec PyProof.Rows
section
variable{X:Cx}
theorem X2(u:Value):∀(m:Nat) (acc:Array Value),(replicate m (#[u]:Array Value)).foldl (·++·) acc=(acc.toList++replicate m u).toArray:=by
 intro m
 induction m with
 |zero=>intro acc;simp
 |succ m ih=>intro acc;rw[replicate_succ,foldl_cons,ih,replicate_succ];simp
theorem Ss{x:V}{u:Value}(r:RelV x u):∀m:Nat,Vals (replicate m x) (replicate m u)
 |0=> .nil
 |m+1=>by rw[replicate_succ,replicate_succ];exact .cons r (Ss r m)
theorem Z7:OpR X (binaryOp .Mult) (λx y H Q=>∃(a:Addr) (z:V) (k:Int),x= .ref a/\y= .int k/\SqT X.K H a [z]/\1<=k/\k<=1000/\(k=1->Q (.ref a) H)/\(k≠1->∀p,H p=none->Q (.ref p) (upd H p (.tup (replicate k.toNat z))))):=by
 intro pins s σ H x y v u Q I rx ry h;obtain⟨a,z,k,rfl,rfl,ha,k1,k2,q1,q2⟩:=h;cases rx;obtain⟨t,rfl⟩:=ry;obtain⟨its,rv,p,hz⟩:=I.tuple ha;obtain⟨u0,rfl,ru⟩:=Dg rv;obtain⟨⟨cls,dd,data,sl⟩,ho,hc,n,hd⟩:=id p;simp only at hc hd;subst hc hd;refine wpAny_binaryOp_repeat_ref (T:="tuple") (U:="int") (by decide) ⟨_,ho,rfl⟩ (λs'=>typeIs_int s' k t) Le PySem.F.fills_int_mul PySem.F.slot_int_rmul Uz PySem.F.slot_int_index.lookup
  (Qg0 PySem.F.slot_int_rmul (typeIs_int s k t) PySem.F.entry_int_rmul (PySem.F.args_int_rmul_2 _ _) (Qc k t a _ n dd sl)
   ⟨ho,rfl,⟨_,ho,rfl⟩,Qg0 PySem.F.slot_tuple_mul ⟨_,ho,rfl⟩ PySem.F.entry_tuple_mul (PySem.F.args_tuple_mul_2 _ _) (tup_mul a _ n dd sl k t k1 k2 (by simp)) ⟨ho,λe=> ?_,λe=> ?_⟩⟩)
 ·exact⟨.ref a,H,I,rfl,q1 e⟩
 ·refine⟨.ref s.heap.objs.size,_,I.laid (o:= .tup (replicate k.toNat z)) (λb ob q=>Lt _ q) (le_refl _) ⟨by simp[Qb3];omega,replicate k.toNat u0,Ss ru _,?_⟩,rfl,q2 e _ I.fresh⟩;have e:=X2 u0 k.toNat #[];rw[show ([u0].toArray:Array Value)= #[u0] from rfl,e];simp only[nil_append];exact IsTupN.new _ _
end
section
variable{X:Cx}
theorem op_repT2:OpR X (binaryOp .Mult) (λx y H Q=>∃(a:Addr) (z:V) (k:Int),x= .ref a/\y= .int k/\H a=some (.tup [z])/\1<=k/\k<=1000/\∀p H',Same H H'->H' p=some (.tup (replicate k.toNat z))->Q (.ref p) H'):=by
 intro pins s σ H x y v u Q I rx ry h;obtain⟨a,z,k,hx,hy,ha,k1,k2,q⟩:=h;exact Z7 pins s σ H x y v u Q I rx ry ⟨a,z,k,hx,hy,SqT.of ha,k1,k2,λe=>q a H (Cw H) (by rw[ha,e];rfl),λ_ p hp=>q p _ (Ac hp) Ab⟩
end
def Wv(K:Frag)(a:Addr):It:=
 ⟨λi H=>∃xs x,SqT K H a xs/\xs[i]? =some x,λi H v H'=>∃T x,H T=none/\v= .ref T/\H'=upd H T (.tup [.int i,x])/\∀xs,SqT K H a xs->xs[i]? =some x,λi H=>∃xs,SqT K H a xs/\i=xs.length⟩
theorem Tq{P:Program}{w:World}{K:Frag}{elts:List Expr}{x1}{pos:Pos}(a e it:Addr)(hei:e≠it)(hae:a≠e)(hai:a≠it):U2 P w K (.Tuple elts x1 pos) (Wv K a) [e,it] e (λi h=>(∃old,IsEnum h e it i old)/\h.IsTupleIter it a i) where
 mem:=by simp
 obj:=λi h st b hb=>by
  obtain⟨⟨old,he⟩,o,ho,hc,hd⟩:=st;rcases Qa6.mp hb with rfl|hb
  ·exact⟨_,he,λv z=>by cases z⟩
  ·have:b=it:=by simpa using hb
   subst this;exact⟨o,ho,λv z=>by rw[hd] at z;cases z⟩
 keep:=λi h h' st k=>⟨let ⟨old,he⟩:=st.1;⟨old,k e (by simp) _ he⟩,st.2.at λo q=>k it (by simp) o q⟩
 item:=by
  intro X hP hw hK hc i pins s σ H E I hf st hg;subst hP hw hK;obtain⟨⟨old,he⟩,hit⟩:=st;obtain⟨xs,x,hq,hx⟩:=hg;obtain⟨its,rv,p,hz⟩:=I.tuple hq;obtain⟨u,hu,ru⟩:=rv.get hx;have fresh:H s.heap.objs.size=none:=I.hok.fresh (le_refl _);have elt:e<s.heap.objs.size:=Qa7 he;have ilt:it<s.heap.objs.size:=by obtain⟨_,q,_⟩:=hit;exact Qa7 q
  have hil:i<its.toArray.size:=by have:=(List.getElem?_eq_some_iff.mp hu).1;simpa using this
  refine wpAny_pyNext_enum_itemD (Draws.tup (A:=X.A.in1) (I.ok.hd hc) it a hai its.toArray) he ⟨hit,p⟩ hil hei (by simp only[Qa6,Qd9,or_false,not_or];exact⟨hei,hae.symm⟩) λuv h' tk pu eo it' hT hsz kk=>⟨_,rfl,?_⟩
  have eu:u=uv:=Option.some.inj (hu.symm.trans (by simpa using pu));subst eu;refine wpAny_letOwnedTupleGo_enum (s:={s with heap:=h',toks:=tk+1}) eo λh2 e2 sb=> ?_;have I1:Inv X pins σ (upd H s.heap.objs.size (.tup [.int i,x])) {s with heap:=s.heap.push {cls:= .type "tuple",data:= .seq #[.int i tk,u]},toks:=s.toks}:=
   I.laid (o:= .tup [.int i,x]) (λb ob q=>Lt _ q) (le_refl _) ⟨by rw[Qb3];simp,[.int i tk,u],.cons ⟨_,rfl⟩ (.cons ru .nil),IsTupN.new _ _⟩
  have I2:=I1.turnedL (h':=h2) (t':=tk+1) [e,it] (λb o hb q=> ?_) (λb hb=> ?_)
  ·refine⟨.ref s.heap.objs.size,_,I2,rfl,⟨_,x,fresh,rfl,rfl,λys hy=>by rw[I.tuple_inj hy hq];exact hx⟩,⟨⟨_,by simpa using e2⟩,it'.1.at λo q=>(sb.2 it hei.symm).trans q⟩,λb hb=> ?_⟩;rcases Qa6.mp hb with rfl|hb
   ·rw[Ai (ne_of_lt elt)];exact(hf _ (by simp)).1
   ·have:b=it:=by simpa using hb
    subst this;rw[Ai (ne_of_lt ilt)];exact(hf _ (by simp)).1
  ·have b1:b≠e:=λz=>hb (by simp[z]);have b2:b≠it:=λz=>hb (by simp[z]);refine(sb.2 b b1).trans ?_;by_cases hbs:b=s.heap.objs.size
   ·subst hbs;rw[Qa5 _ rfl] at q;cases q;exact hT
   ·rw[Qg7 _ _ _ hbs] at q;exact kk b o b1 b2 q
  ·rcases Qa6.mp hb with rfl|hb
   ·exact(hf _ (by simp)).up (ne_of_lt elt)
   ·have:b=it:=by simpa using hb
    subst this;exact(hf _ (by simp)).up (ne_of_lt ilt)
 done:=by
  intro X hP hw hK hc i pins s σ H E I hf st hg;subst hP hw hK;obtain⟨⟨old,he⟩,hit⟩:=st;obtain⟨xs,hq,hx⟩:=hg;obtain⟨its,rv,p,hz⟩:=I.tuple hq;have hl:=rv.length;have hn:i=its.toArray.size:=by simp;omega
  subst hn;exact wpAny_pyNext_enum_endD (Draws.tup (A:=X.A.in1) (I.ok.hd hc) it a hai its.toArray) he ⟨hit,p⟩ λh' eb=>⟨rfl,I.turnedL (t':=s.toks) [e,it] (λb o hb q=>eb b o (λz=>hb (by simp[z])) q) hf⟩
 self:=λA i s Q E st h=>let ⟨⟨old,he⟩,_⟩:=st;wpAny_pyIter_enum he h
end L2
namespace PySem
open Builtin
theorem Gj(a:Addr)(items:Array Value)(n:Nat)(dd:Option Addr)(sl:Array (Option Value)):
  Meets (Builtin.«enumerate.__new__» ⟨[.type "enumerate",.ref a],[]⟩) (λ_ R s=>s.heap.get? a=some {cls:= .type "tuple",dict:=dd,data:= .seq items n,slots:=sl}/\
   R (.ok (.ret (.ref (s.heap.push {cls:= .type "tuple_iterator",data:= .fields #[.ref a,.int 0 0]}).objs.size)))
    {s with heap:=(s.heap.push {cls:= .type "tuple_iterator",data:= .fields #[.ref a,.int 0 0]}).push {cls:= .type "enumerate",data:= .fields #[.none,.bool false,.ref s.heap.objs.size,rawInt 0,.none,.none]}}):=
 .of_wp λprog w A R s h=>by
  obtain⟨hp,g,d,tk,os⟩:=s;obtain⟨ha,h⟩:=h;have hsub:=sub_enumerate;have tA:IsTuple (Shared.heap ⟨hp,g,d,tk,os⟩) a items:=⟨_,ha,rfl,n,rfl⟩
  wp_walk using AutoSeq1.wpAny_loadPart' ha
  refine wpAny_stack_any λst=>Qa0 ?_;split
  ·rename_i c _ _ _ _ _;cases (c==Value.type "enumerate")<;> (wp_walk using AutoSeq1.wpAny_loadPart' ha,Qf0 tA;exact⟨_,rfl,h⟩)
  ·wp_walk using AutoSeq1.wpAny_loadPart' ha,Qf0 tA
   exact⟨_,rfl,h⟩
theorem Hb{prog:Program}{w:World}{A:Around}{E:Value->Shared->Prop}{s:Shared}{a:Addr}{items:Array Value}{Q:Value->Shared->Prop}(tA:s.heap.IsTuple a items)(h:∀h',IsEnum h' (s.heap.objs.size+1) s.heap.objs.size 0 .none->h'.IsTupleIter s.heap.objs.size a 0->(∀b o,s.heap.get? b=some o->h'.get? b=some o)->Q (.ref (s.heap.objs.size+1)) {s with heap:=h'}):
  wpAny (model prog w) A (call (.type "enumerate") [.ref a]) Q E s:=by
 obtain⟨⟨c,dd,dt,sl⟩,ha,hc,n,hd⟩:=tA
 replace hc:c= .type "tuple":=hc
 replace hd:dt= .seq items n:=hd
 subst hc hd;refine callType_new F.called_enumerate (by decide) (F.typeCall_enumerate_1 _) (F.newCall_enumerate_1 _) (λobj=>F.args_object_init_2 obj _) F.entry_enumerate_new (Gj a items n dd sl) ⟨ha,?_⟩;have y1:(s.heap.push {cls:= .type "tuple_iterator",data:= .fields #[.ref a,.int 0 0]}).objs.size=s.heap.objs.size+1:=size_push ..;have e1:((s.heap.push {cls:= .type "tuple_iterator",data:= .fields #[.ref a,.int 0 0]}).push {cls:= .type "enumerate",data:= .fields #[.none,.bool false,.ref s.heap.objs.size,rawInt 0,.none,.none]}).get? (s.heap.push {cls:= .type "tuple_iterator",data:= .fields #[.ref a,.int 0 0]}).objs.size=some _:=Qa5 _ rfl;have e2:((s.heap.push {cls:= .type "tuple_iterator",data:= .fields #[.ref a,.int 0 0]}).push {cls:= .type "enumerate",data:= .fields #[.none,.bool false,.ref s.heap.objs.size,rawInt 0,.none,.none]}).get? s.heap.objs.size=some _:=Lt _ (Qa5 _ rfl);show _/\_;rw[y1] at e1 ⊢;exact⟨⟨_,e1,rfl⟩,h _ e1 ⟨_,e2,rfl,rfl⟩ λb o e=>Lt _ (Lt _ e)⟩
end PySem
namespace L2
open PySem PySem.Spec PyProof.Rows
def iEnumT(K:Frag)(ta:TA):TI:=λσ H R=>ta σ H λvs H1=>∃a xs,vs=[.ref a]/\SqT K H1 a xs/\R (Wv K a) H1
theorem Iz{X:Cx}{elts:List Expr}{x1}{tpos:Pos}{a:Expr}{ta:TA}{p pos:Pos}(hg:Gl X "enumerate")(hm:X.mg "enumerate"=none)(ha:PA X [a] ta)(hs:starEach [a] X.env=[(false,eval a X.env)]:=by rfl):
  PI X (.Tuple elts x1 tpos) (.Call (.Name "enumerate" p) [a] [] pos) (iEnumT X.K ta):=by
 intro pins s σ H R I h;refine Call_ (Dz I hg hm (show bootBuiltins "enumerate"=some (.type "enumerate") by decide+kernel) (PyProof.Rows.callWith_type1 (thn (ha pos pins s σ H _ I h) λus s1 ⟨vs,H1,I1,r1,q1⟩=> ?_) hs rfl));obtain⟨l,xs,e,hq,q⟩:=q1;subst e;obtain⟨u,rfl,ru⟩:=Dg r1;cases ru;obtain⟨its,rv,pl,hz⟩:=I1.tuple hq;refine Hb pl λh' he hit kk=>wpAny_pyIter_enum he ?_;obtain⟨ol,gl,_⟩:=id pl;have ll:=Qa7 gl;refine⟨s1.heap.objs.size+1,[s1.heap.objs.size+1,s1.heap.objs.size],_,_,H1,rfl,I1.kept (t':=s1.toks) kk,Tq l _ _ (Nat.succ_ne_self _) (ne_of_lt (Qe1 ll)) (ne_of_lt ll),⟨⟨_,he⟩,hit⟩,λb hb=> ?_,q⟩;have hb:s1.heap.objs.size<=b:=by
  rcases Qa6.mp hb with rfl|hb
  ·exact le_succ _
  ·have:b=s1.heap.objs.size:=by simpa using hb
   exact le_of_eq this.symm
 exact I1.fpOk hb (I1.hok.fresh hb)
section
variable{g:TG}{ti:TT}{te:TE}{Q:VK}{D:Addr}{σ:St}{H:Hp}
theorem Hs{K:Frag}{a:Addr}{xs:List V}(Pv:Nat->St->List V->Hp->Prop)(h0:Pv 0 σ [] (upd H D (.lst [])))(hl:∀i σ ys H,i<=xs.length->Pv i σ ys H->SqT K H a xs/\H D=some (.lst ys))(hs:∀i x σ ys H T,xs[i]? =some x->Pv i σ ys H->H T=none->Mw g ti te D (.ref T) σ ys (upd H T (.tup [.int (i:Nat),x])) (Pv (i+1)))(hd:∀σ ys H,Pv xs.length σ ys H->Q (.ref D) H):
  cgo (Wv K a) g ti te D σ H Q:=by
 refine⟨λi m σ ys H=>m=xs.length - i/\i<=xs.length/\Pv i σ ys H,⟨xs.length,by simp,Qc5 _,h0⟩,?_⟩;rintro i m σ ys H ⟨rfl,hi,p⟩;obtain⟨q,hD⟩:=hl i σ ys H hi p;refine⟨hD,?_⟩;by_cases hlt:i<xs.length
 ·refine .inr ⟨⟨xs,xs[i],q,by simp[hlt]⟩,Pv (i+1),λσ' ys' H' p'=>⟨xs.length - (i+1),by omega,rfl,hlt,p'⟩,λx H' y=> ?_⟩;obtain⟨T,z,hT,rfl,rfl,y⟩:=y;exact hs i z σ ys H T (y xs q) p hT
 ·have e:i=xs.length:=by omega
  subst e;exact .inl ⟨⟨xs,q,rfl⟩,hd σ ys H p⟩
end
end L2
namespace Srt
open PySem PySem.W PyProof.Rows
structure Ord(lt:Nat->Nat->Bool):Prop where
 asym:∀a b,lt a b=true->lt b a=false
 ntr:∀a b c,lt a b=false->lt b c=false->lt a c=false
def ev{α:Type}(lt:Nat->Nat->Bool):KasT α->α
 | .ret a=>a
 | .ask i j k=>ev lt (k (lt i j))
theorem Gn{α β:Type}(lt:Nat->Nat->Bool)(f:α->KasT β):∀t:KasT α,ev lt (t.bind f)=ev lt (f (ev lt t))
 | .ret _=>rfl
 | .ask i j k=>Gn lt f (k (lt i j))
def AsksP{α:Type}(n:Nat)(P:α->Prop):KasT α->Prop
 | .ret a=>P a
 | .ask i j k=>i<n/\j<n/\∀b,AsksP n P (k b)
theorem AsksP.bind{α β:Type}{n:Nat}{P:α->Prop}{R:β->Prop}{f:α->KasT β}(hf:∀a,P a->AsksP n R (f a)):∀{t:KasT α},AsksP n P t->AsksP n R (t.bind f)
 | .ret a,h=>hf a h
 | .ask i j k,h=>⟨h.1,h.2.1,λb=>AsksP.bind hf (h.2.2 b)⟩
theorem AsksP.ev{α:Type}{n:Nat}{P:α->Prop}(lt:Nat->Nat->Bool):∀{t:KasT α},AsksP n P t->P (Srt.ev lt t)
 | .ret _,h=>h
 | .ask i j k,h=>AsksP.ev (n:=n) (P:=P) lt (t:=k (lt i j)) (h.2.2 (lt i j))
theorem AsksP.wp{α:Type}{n:Nat}{P:α->Prop}{cmp:Nat->Nat->(Bool->Shared->Prop)->Shared->Prop}{lt:Nat->Nat->Bool}{s:Shared}(hc:∀i j (C:Bool->Shared->Prop),i<n->j<n->C (lt i j) s->cmp i j C s){Q:α->Shared->Prop}:∀{t:KasT α},AsksP n P t->Q (Srt.ev lt t) s->t.kasWp cmp Q s
 | .ret _,_,q=>q
 | .ask i j k,h,q=>hc i j _ h.1 h.2.1 (AsksP.wp hc (h.2.2 (lt i j)) q)
abbrev g(p:Array Nat)(k:Nat):Nat:=p.getD k 0
theorem Us(p:Array Nat)(k:Nat):g p k=(p[k]?).getD 0:=by
 show p.getD k 0=_;simp[Array.getD_eq_getD_getElem?]
theorem g_rev{p:Array Nat}{i j:Nat}(hj:j<=p.size)(k:Nat):g (kas_rev p i j) k=if i<=k/\k<j then g p (i+j - 1 - k) else g p k:=by
 rw[Us];unfold kas_rev;rw[getElem?_mirror_all hj];split<;> rw[Us]
theorem g_bub{p:Array Nat}{src d:Nat}(hs:src<p.size)(hd:d<=src)(k:Nat):g (bubble p src d) k=if k=src - d then g p src else if src - d<k/\k<=src then g p (k - 1) else g p k:=by
 rw[Us,getElem?_bubble hs d hd,Us,Us,Us];split
 ·rfl
 ·split<;> rfl
theorem Ja(p:Array Nat)(i j:Nat):(kas_rev p i j).size=p.size:=mirror_size _ _ _ _
theorem Iq(p:Array Nat)(i j:Nat):(kas_rev p i j).Perm p:=mirror_perm _ _ _ _
def Pm(n:Nat)(p:Array Nat):Prop:=p.Perm (List.range n).toArray
theorem Pm.size{n:Nat}{p:Array Nat}(h:Pm n p):p.size=n:=by
 have:=Array.Perm.size_eq h;simpa using this
theorem Pm.lt{n:Nat}{p:Array Nat}(h:Pm n p)(h0:0<n)(k:Nat):g p k<n:=by
 rw[Us];cases e:p[k]? with
 |none=>exact h0
 |some x=>
  have hx:x∈p:=Array.mem_of_getElem? e;have:=(Array.Perm.mem_iff h).mp hx;simpa using this
section
variable{n:Nat}(h0:0<n)
include h0
theorem Mr{p:Array Nat}(h:Pm n p):∀f m,AsksP n (λ_=>True) (kas_asc p f m)
 |0,_=>trivial
 |f+1,m=>⟨h.lt h0 _,h.lt h0 _,λb=>by cases b<;> first|exact trivial|exact Mr h f (m+1)⟩
theorem Gs:∀f {p:Array Nat} (m q:Nat),Pm n p->AsksP n (λr=>Pm n r.1) (kas_desc f p m q)
 |0,_,_,_,h=>h
 |f+1,p,m,q,h=>by
  refine⟨h.lt h0 _,h.lt h0 _,λb=> ?_⟩;cases b with
  |true=>
   show AsksP n _ (if q > 0 then _ else _);by_cases hq:q > 0
   ·rw[Qa2 hq];exact Gs f _ _ ((Iq _ _ _).trans h)
   ·rw[Qa1 hq];exact Gs f _ _ h
  |false=>
   refine⟨h.lt h0 _,h.lt h0 _,λd=> ?_⟩;cases d with
   |true=>exact h
   |false=>exact Gs f _ _ h
theorem Lh{p:Array Nat}(m nrem:Nat)(h:Pm n p):AsksP n (λr=>Pm n r.2) (kas_tail3 m nrem p):=by
 have hr:Pm n (kas_rev p 0 m):=(Iq _ _ _).trans h;refine AsksP.bind (n:=n) (P:=λ_=>True) (R:=λr:Nat×Array Nat=>Pm n r.2) (λk _=> ?_) (Mr h0 hr _ _);exact hr
theorem G9{p:Array Nat}(m nrem:Nat)(h:Pm n p):AsksP n (λr=>Pm n r.2) (kas_descPart m nrem p):=
 (Gs h0 _ _ _ h).bind λr hr=>by
  by_cases hq:r.2.2 > 0
  ·rw[Qa2 hq];exact Lh h0 _ _ ((Iq _ _ _).trans hr)
  ·rw[Qa1 hq];exact Lh h0 _ _ hr
theorem Nd{p:Array Nat}(nrem:Nat)(h:Pm n p):AsksP n (λr=>Pm n r.2) (kas_count nrem p):=
 (Mr h0 h _ _).bind λm _=>by
  by_cases h1:(m==nrem)=true
  ·rw[Qa2 h1];exact h
  ·rw[Qa1 h1];by_cases h2:m > 1
   ·rw[Qa2 h2];refine⟨h.lt h0 _,h.lt h0 _,λc=> ?_⟩;cases c with
    |true=>exact h
    |false=>exact G9 h0 _ _ ((Iq _ _ _).trans h)
   ·rw[Qa1 h2];exact G9 h0 _ _ h
theorem Hi{p:Array Nat}(k:Nat)(h:Pm n p):∀f l r,AsksP n (λ_=>True) (kas_place p k f l r)
 |0,_,_=>trivial
 |f+1,l,r=>by
  show AsksP n _ (if l ≥ r then _ else _);by_cases hl:l ≥ r
  ·rw[Qa2 hl];trivial
  ·rw[Qa1 hl];refine⟨h.lt h0 _,h.lt h0 _,λc=> ?_⟩;cases c with
   |true=>exact Hi k h f _ _
   |false=>exact Hi k h f _ _
theorem R3:∀f {p:Array Nat} (k:Nat),Pm n p->AsksP n (Pm n) (kas_bin f p k)
 |0,_,_,h=>h
 |f+1,p,k,h=>(Hi h0 k h _ _ _).bind λl _=>R3 f (k+1) ((bubble_perm _ _ _).trans h)
theorem N7:AsksP n (Pm n) (kas_sort n):=
 (Nd h0 n (Array.Perm.refl _)).bind λr hr=>by
  by_cases h1:r.1<n
  ·rw[Qa2 h1];exact R3 h0 _ _ hr
  ·rw[Qa1 h1];exact hr
end
section
variable{lt:Nat->Nat->Bool}(O:Ord lt)
def Sto(lt:Nat->Nat->Bool)(p:Array Nat)(k:Nat):Prop:=∀i j,i<=j->j<k->lt (g p j) (g p i)=false
def Dto(lt:Nat->Nat->Bool)(p:Array Nat)(k:Nat):Prop:=∀i j,i<=j->j<k->lt (g p i) (g p j)=false
def Eqv(lt:Nat->Nat->Bool)(a b:Nat):Prop:=lt a b=false/\lt b a=false
include O
theorem irr(a:Nat):lt a a=false:=by
 cases h:lt a a with
 |false=>rfl
 |true=>have:=O.asym a a h;rw[h] at this;cases this
theorem Tb{p:Array Nat}:∀f m,1<=m->Sto lt p m->m<=ev lt (kas_asc p f m)/\ev lt (kas_asc p f m)<=m+f/\Sto lt p (ev lt (kas_asc p f m))/\(ev lt (kas_asc p f m)<m+f->lt (g p (ev lt (kas_asc p f m))) (g p (ev lt (kas_asc p f m) - 1))=true)
 |0,m,_,hs=>⟨le_refl _,le_refl _,hs,λh=>absurd h (lt_irrefl _)⟩
 |f+1,m,h1,hs=>by
  show m<=ev lt (if lt (g p m) (g p (m - 1))=true then .ret m else kas_asc p f (m+1))/\ev lt (if lt (g p m) (g p (m - 1))=true then .ret m else kas_asc p f (m+1))<=m+(f+1)/\Sto lt p (ev lt (if lt (g p m) (g p (m - 1))=true then .ret m else kas_asc p f (m+1)))/\(ev lt (if lt (g p m) (g p (m - 1))=true then .ret m else kas_asc p f (m+1))<m+(f+1)->lt (g p (ev lt (if lt (g p m) (g p (m - 1))=true then .ret m else kas_asc p f (m+1)))) (g p (ev lt (if lt (g p m) (g p (m - 1))=true then .ret m else kas_asc p f (m+1)) - 1))=true);by_cases c:lt (g p m) (g p (m - 1))=true
  ·rw[Qa2 c];exact⟨le_refl _,le_add_right _ _,hs,λ_=>c⟩
  ·rw[Qa1 c];have c:lt (g p m) (g p (m - 1))=false:=by simpa using c
   have hs':Sto lt p (m+1):=λi j hij hj=>by
    by_cases e:j=m
    ·subst e;by_cases e2:i=j
     ·subst e2;exact irr O _
     ·exact O.ntr _ _ _ c (hs i (j - 1) (by omega) (by exact sub_lt (by assumption) (by decide)))
    ·exact hs i j hij (by omega)
   obtain⟨a,b,d,e⟩:=Tb f (m+1) (by exact Qe1 (by assumption)) hs';exact⟨by exact le_of_lt (by assumption),by omega,d,λh=>e (by omega)⟩
theorem Dto.eqv{p p1:Array Nat}{k:Nat}(h:Dto lt p k)(he:∀i,i<k->Eqv lt (g p1 i) (g p i)):Dto lt p1 k:=λi j hij hj=>
 O.ntr _ _ _ (he i (by exact lt_of_le_of_lt (by assumption) (by assumption))).1 (O.ntr _ _ _ (h i j hij hj) (he j hj).2)
def Blk(lt:Nat->Nat->Bool)(p:Array Nat)(m q:Nat):Prop:=q+1<=m/\∀i j,m - (q+1)<=i->i<m->m - (q+1)<=j->j<m->Eqv lt (g p i) (g p j)
theorem Qd{p:Array Nat}{m q:Nat}(hm:m<=p.size)(hb:Blk lt p m q):∀i,Eqv lt (g (kas_rev p (m - (q+1)) m) i) (g p i):=λi=>by
 have h1:=hb.1;rw[g_rev hm];split
 ·exact hb.2 _ _ (by omega) (by omega) (by omega) (by omega)
 ·exact⟨irr O _,irr O _⟩
theorem Kr:∀f {p:Array Nat} (m q:Nat),1<=m->m+f<=p.size->Dto lt p m->Blk lt p m q->
  let r:=ev lt (kas_desc f p m q);m<=r.2.1/\r.2.1<=m+f/\r.1.size=p.size/\Dto lt r.1 r.2.1/\Blk lt r.1 r.2.1 r.2.2
 |0,p,m,q,_,_,hd,hb=>⟨le_refl _,le_refl _,rfl,hd,hb⟩
 |f+1,p,m,q,h1,hz,hd,hb=>by
  intro r;have b1:=hb.1;have single:∀(p':Array Nat),Blk lt p' (m+1) 0:=λp'=>⟨by exact Qe1 (by assumption),λi j a b c d=>by
   have:i=j:=by omega
   subst this;exact⟨irr O _,irr O _⟩⟩
  have low:lt (g p (m - 1)) (g p m)=false->Dto lt p (m+1):=λc i j hij hj=>by
   by_cases e:j=m
   ·subst e;by_cases e2:i=j
    ·subst e2;exact irr O _
    ·exact O.ntr _ _ _ (hd i (j - 1) (by omega) (by exact sub_lt (by assumption) (by decide))) c
   ·exact hd i j hij (by omega)
  by_cases c:lt (g p m) (g p (m - 1))=true
  ·have cl:=low (O.asym _ _ c);by_cases hq:q > 0
   ·have e:r=ev lt (kas_desc f (kas_rev p (m - (q+1)) m) (m+1) 0):=by
     show ev lt (if lt (g p m) (g p (m - 1))=true then (if q > 0 then _ else _) else _)=_;rw[Qa2 c,Qa2 hq]
    obtain⟨a,b,s,d,k⟩:=Kr f (p:=kas_rev p (m - (q+1)) m) (m+1) 0 (by exact Qe1 (by assumption)) (by rw[Ja];omega) (Dto.eqv O cl λi _=>Qd O (by omega) hb i) (single _);rw[e];exact⟨by exact le_of_lt (by assumption),by omega,by rw[s,Ja],d,k⟩
   ·have e:r=ev lt (kas_desc f p (m+1) 0):=by
     show ev lt (if lt (g p m) (g p (m - 1))=true then (if q > 0 then _ else _) else _)=_;rw[Qa2 c,Qa1 hq]
    obtain⟨a,b,s,d,k⟩:=Kr f (p:=p) (m+1) 0 (by exact Qe1 (by assumption)) (by omega) cl (single _);rw[e];exact⟨by exact le_of_lt (by assumption),by omega,s,d,k⟩
  ·have c':lt (g p m) (g p (m - 1))=false:=by simpa using c
   by_cases d1:lt (g p (m - 1)) (g p m)=true
   ·have e:r=(p,m,q):=by
     show ev lt (if lt (g p m) (g p (m - 1))=true then _ else KasT.ask _ _ λd=>if d=true then _ else _)=_;rw[Qa1 c];show ev lt (if lt (g p (m - 1)) (g p m)=true then KasT.ret (p,m,q) else _)=_;rw[Qa2 d1];rfl
    rw[e];exact⟨le_refl _,le_add_right _ _,rfl,hd,hb⟩
   ·have d':lt (g p (m - 1)) (g p m)=false:=by simpa using d1
    have e:r=ev lt (kas_desc f p (m+1) (q+1)):=by
     show ev lt (if lt (g p m) (g p (m - 1))=true then _ else KasT.ask _ _ λd=>if d=true then _ else _)=_;rw[Qa1 c];show ev lt (if lt (g p (m - 1)) (g p m)=true then KasT.ret (p,m,q) else _)=_;rw[Qa1 d1]
    have blk:Blk lt p (m+1) (q+1):=⟨by exact Nat.succ_le_succ (by assumption),λi j i1 i2 j1 j2=>by
     have to:∀k,m - (q+1)<=k->k<m+1->Eqv lt (g p k) (g p (m - 1)):=λk k1 k2=>by
      by_cases z:k=m
      ·subst z;exact⟨c',d'⟩
      ·exact hb.2 k (m - 1) k1 (by omega) (by omega) (by exact sub_lt (by assumption) (by decide))
     have a:=to i (by omega) i2;have b:=to j (by omega) j2;exact⟨O.ntr _ _ _ a.1 b.2,O.ntr _ _ _ b.1 a.2⟩⟩
    obtain⟨a,b,s,d,k⟩:=Kr f (p:=p) (m+1) (q+1) (by exact Qe1 (by assumption)) (by omega) (low d') blk;rw[e];exact⟨by exact le_of_lt (by assumption),by omega,s,d,k⟩
theorem Dto.rev{p:Array Nat}{m:Nat}(hm:m<=p.size)(h:Dto lt p m):Sto lt (kas_rev p 0 m) m:=λi j hij hj=>by
 rw[g_rev hm,g_rev hm,Qa2 ⟨by exact Qc5 _,by assumption⟩,Qa2 ⟨by exact Qc5 _,by exact lt_of_le_of_lt (by assumption) (by assumption)⟩];exact h _ _ (by omega) (by omega)
theorem Si{p:Array Nat}{m nrem:Nat}(h1:1<=m)(hn:m<=nrem)(hz:nrem<=p.size)(h:Dto lt p m):let r:=ev lt (kas_tail3 m nrem p);1<=r.1/\r.1<=nrem/\Sto lt r.2 r.1:=by
 intro r;have e:r=(ev lt (kas_asc (kas_rev p 0 m) (nrem - m) m),kas_rev p 0 m):=Gn lt _ _;obtain⟨a,b,c,_⟩:=Tb O (p:=kas_rev p 0 m) (nrem - m) m h1 (Dto.rev O (by exact le_trans (by assumption) (by assumption)) h);rw[e];exact⟨by show 1<=_;exact le_trans (by assumption) (by assumption),by show _<=nrem;omega,c⟩
theorem Ka{p:Array Nat}{m nrem:Nat}(hn:m+1<=nrem)(hz:nrem<=p.size)(h:Dto lt p (m+1)):let r:=ev lt (kas_descPart m nrem p);1<=r.1/\r.1<=nrem/\Sto lt r.2 r.1:=by
 intro r;have single:Blk lt p (m+1) 0:=⟨by omega,λi j a b c d=>by
  have:i=j:=by omega
  subst this;exact⟨irr O _,irr O _⟩⟩
 obtain⟨a,b,s,d,k⟩:=Kr O (nrem - (m+1)) (p:=p) (m+1) 0 (by omega) (by omega) h single;have e:r=ev lt (if (ev lt (kas_desc (nrem - (m+1)) p (m+1) 0)).2.2 > 0 then kas_tail3 (ev lt (kas_desc (nrem - (m+1)) p (m+1) 0)).2.1 nrem (kas_rev (ev lt (kas_desc (nrem - (m+1)) p (m+1) 0)).1 ((ev lt (kas_desc (nrem - (m+1)) p (m+1) 0)).2.1 - ((ev lt (kas_desc (nrem - (m+1)) p (m+1) 0)).2.2+1)) (ev lt (kas_desc (nrem - (m+1)) p (m+1) 0)).2.1) else kas_tail3 (ev lt (kas_desc (nrem - (m+1)) p (m+1) 0)).2.1 nrem (ev lt (kas_desc (nrem - (m+1)) p (m+1) 0)).1):=Gn lt _ _;rw[e];generalize ev lt (kas_desc (nrem - (m+1)) p (m+1) 0)=x at a b s d k;by_cases hq:x.2.2 > 0
 ·rw[Qa2 hq];exact Si O (by omega) (by omega) (by rw[Ja];omega) (Dto.eqv O d λi _=>Qd O (by omega) k i)
 ·rw[Qa1 hq];exact Si O (by omega) (by omega) (by omega) d
theorem ev_count{p:Array Nat}{nrem:Nat}(h1:1<=nrem)(hz:nrem<=p.size):let r:=ev lt (kas_count nrem p);1<=r.1/\r.1<=nrem/\Sto lt r.2 r.1:=by
 intro r;have s1:Sto lt p 1:=λi j hij hj=>by
  have a:i=0:=by omega
  have b:j=0:=by omega
  subst a b;exact irr O _
 obtain⟨a,b,c,e⟩:=Tb O (p:=p) (nrem - 1) 1 (le_refl _) s1;have er:r=ev lt ((λn=>if (n==nrem)=true then KasT.ret (n,p) else if n > 1 then KasT.ask (p.getD 0 0) (p.getD (n - 1) 0) λc=>if c=true then KasT.ret (n,p) else kas_descPart n nrem (kas_rev p 0 n) else kas_descPart n nrem p) (ev lt (kas_asc p (nrem - 1) 1))):=Gn lt _ _;rw[er];generalize ev lt (kas_asc p (nrem - 1) 1)=m at a b c e;dsimp only;by_cases h2:(m==nrem)=true
 ·rw[Qa2 h2];exact⟨a,by show m<=nrem;omega,c⟩
 ·rw[Qa1 h2];have hm:m<nrem:=by
   have:m≠nrem:=by simpa using h2
   omega
  have last:=e (by omega);by_cases h3:m > 1
  ·rw[Qa2 h3];show let r:=ev lt (if lt (g p 0) (g p (m - 1))=true then KasT.ret (m,p) else kas_descPart m nrem (kas_rev p 0 m));1<=r.1/\r.1<=nrem/\Sto lt r.2 r.1
   by_cases h4:lt (g p 0) (g p (m - 1))=true
   ·rw[Qa2 h4];exact⟨a,by show m<=nrem;exact le_of_lt (by assumption),c⟩
   ·rw[Qa1 h4];have h4:lt (g p 0) (g p (m - 1))=false:=by simpa using h4
    have all:∀i j,i<m->j<m->lt (g p i) (g p j)=false:=λi j hi hj=>O.ntr _ _ _ (O.ntr _ _ _ (c 0 i (by exact Qc5 _) hi) h4) (c j (m - 1) (by omega) (by exact sub_lt (by assumption) (by decide)));have blk:Blk lt p m (m - 1):=⟨by exact sub_lt (by assumption) (by decide),λi j _ i2 _ j2=>⟨all i j i2 j2,all j i j2 i2⟩⟩
    have d1:Dto lt p (m+1):=λi j hij hj=>by
     by_cases z:j=m
     ·subst z;by_cases z2:i=j
      ·subst z2;exact irr O _
      ·exact O.ntr _ _ _ (all i (j - 1) (by omega) (by exact sub_lt (by assumption) (by decide))) (O.asym _ _ last)
     ·exact all i j (by omega) (by omega)
    have rb:=Qd O (by omega) blk;rw[show m - (m - 1+1)=0 by omega] at rb;exact Ka O (by assumption) (by rw[Ja];assumption) (Dto.eqv O d1 λi _=>rb i)
  ·rw[Qa1 h3];have:m=1:=by omega
   subst this;refine Ka O (by assumption) hz λi j hij hj=> ?_;by_cases z:i=j
   ·subst z;exact irr O _
   ·have a0:i=0:=by omega
    have b1:j=1:=by omega
    subst a0 b1;exact O.asym _ _ last
theorem M5{p:Array Nat}{k:Nat}:∀f l r,r - l<=f->l<=r->r<=k->(∀i,i<l->lt (g p k) (g p i)=false)->(∀i,r<=i->i<k->lt (g p k) (g p i)=true)->Sto lt p k->
  let x:=ev lt (kas_place p k f l r);x<=k/\(∀i,i<x->lt (g p k) (g p i)=false)/\∀i,x<=i->i<k->lt (g p k) (g p i)=true
 |0,l,r,hf,hlr,hrk,h1,h2,_=>by
  have:l=r:=by omega
  subst this;exact⟨hrk,h1,h2⟩
 |f+1,l,r,hf,hlr,hrk,h1,h2,hs=>by
  intro x;by_cases hl:l ≥ r
  ·have e:x=l:=by
    show ev lt (if l ≥ r then KasT.ret l else _)=l;rw[Qa2 hl];rfl
   have:l=r:=by omega
   subst this;rw[e];exact⟨hrk,h1,h2⟩
  ·by_cases c:lt (g p k) (g p ((l+r) / 2))=true
   ·have e:x=ev lt (kas_place p k f l ((l+r) / 2)):=by
     show ev lt (if l ≥ r then KasT.ret l else KasT.ask _ _ λc=>if c=true then _ else _)=_;rw[Qa1 hl];show ev lt (if lt (g p k) (g p ((l+r) / 2))=true then _ else _)=_;rw[Qa2 c]
    rw[e];refine M5 f l ((l+r) / 2) (by omega) (by omega) (by omega) h1 (λi i1 i2=> ?_) hs;cases z:lt (g p k) (g p i) with
    |true=>rfl
    |false=>
     have:=O.ntr _ _ _ z (hs ((l+r) / 2) i i1 i2);rw[c] at this;cases this
   ·have c':lt (g p k) (g p ((l+r) / 2))=false:=by simpa using c
    have e:x=ev lt (kas_place p k f ((l+r) / 2+1) r):=by
     show ev lt (if l ≥ r then KasT.ret l else KasT.ask _ _ λc=>if c=true then _ else _)=_;rw[Qa1 hl];show ev lt (if lt (g p k) (g p ((l+r) / 2))=true then _ else _)=_;rw[Qa1 c]
    rw[e];refine M5 f ((l+r) / 2+1) r (by omega) (by omega) hrk (λi i1=>O.ntr _ _ _ c' (hs i ((l+r) / 2) (by omega) (by omega))) h2 hs
theorem Zl:∀f {p:Array Nat} (k:Nat),k+f=p.size->Sto lt p k->Sto lt (ev lt (kas_bin f p k)) p.size
 |0,p,k,hz,hs=>by
  have:k=p.size:=by assumption
  subst this;exact hs
 |f+1,p,k,hz,hs=>by
  have e:ev lt (kas_bin (f+1) p k)=ev lt (kas_bin f (bubble p k (k - ev lt (kas_place p k k 0 k))) (k+1)):=Gn lt _ _;obtain⟨x1,x2,x3⟩:=M5 O (p:=p) (k:=k) k 0 k (by exact le_refl _) (by exact Qc5 _) (le_refl _) (λi hi=>by omega) (λi i1 i2=>by omega) hs;rw[e];generalize ev lt (kas_place p k k 0 k)=x at x1 x2 x3;have hs':Sto lt (bubble p k (k - x)) (k+1):=λi j hij hj=>by
   rw[g_bub (by omega) (by exact Nat.sub_le _ _),g_bub (by omega) (by exact Nat.sub_le _ _),show k - (k - x)=x by omega];by_cases j1:j=x
   ·rw[Qa2 j1];by_cases i1:i=x
    ·rw[Qa2 i1];exact irr O _
    ·rw[Qa1 i1,Qa1 (by omega)];exact x2 i (by omega)
   ·rw[Qa1 j1];by_cases j2:x<j/\j<=k
    ·rw[Qa2 j2];by_cases i1:i=x
     ·rw[Qa2 i1];exact O.asym _ _ (x3 (j - 1) (by omega) (by omega))
     ·rw[Qa1 i1];by_cases i2:x<i/\i<=k
      ·rw[Qa2 i2];exact hs (i - 1) (j - 1) (by omega) (by omega)
      ·rw[Qa1 i2];exact hs i (j - 1) (by omega) (by omega)
    ·rw[Qa1 j2,Qa1 (by omega),Qa1 (by omega)];exact hs i j hij (by omega)
  have:=Zl f (p:=bubble p k (k - x)) (k+1) (by rw[bubble_size];omega) hs';rw[bubble_size] at this;exact this
theorem ev_sort{n:Nat}(h1:1<=n):Sto lt (ev lt (kas_sort n)) n:=by
 have hz:(List.range n).toArray.size=n:=by simp
 have e:ev lt (kas_sort n)=ev lt ((λr:Nat×Array Nat=>if r.1<n then kas_bin (n - max r.1 1) r.2 (max r.1 1) else .ret r.2) (ev lt (kas_count n (List.range n).toArray))):=Gn lt _ _;obtain⟨a,b,c⟩:=ev_count O (p:=(List.range n).toArray) h1 (by omega);have pm:Pm n (ev lt (kas_count n (List.range n).toArray)).2:=(Nd (by assumption) n (Array.Perm.refl _)).ev lt;rw[e];generalize ev lt (kas_count n (List.range n).toArray)=r at a b c pm;dsimp only;have sz:=pm.size;by_cases h:r.1<n
 ·rw[Qa2 h,show max r.1 1=r.1 by omega];have:=Zl O (n - r.1) (p:=r.2) r.1 (by omega) c;rw[sz] at this;exact this
 ·rw[Qa1 h];have:r.1=n:=by omega
  rw[this] at c;exact c
end
section
variable{prog:Program}{w:World}{A:Around}{E:Value->Shared->Prop}{s:Shared}
theorem Nf{κ:SortKind}{lt:Nat->Nat->Bool}(O:Ord lt){a:Addr}{vs:List Value}{n:Nat}{P:PySem.Fin->Shared->Prop}(ho:s.heap.get? a=some (seqObj "list" vs.toArray n))(h64:vs.length<64)(hk:∀h',(∀b o,b≠a->s.heap.get? b=some o->h'.get? b=some o)->2<=vs.length->∀Q:SortKind->Shared->Prop,Q κ {s with heap:=h'}->wpAny (model prog w) A (keyKind' vs.toArray) Q E {s with heap:=h'})(hc:∀h',(∀b o,b≠a->s.heap.get? b=some o->h'.get? b=some o)->∀i j (C:Bool->Shared->Prop),i<vs.length->j<vs.length->C (lt i j) {s with heap:=h'}->kas_ask prog w A κ vs i j C {s with heap:=h'})(h:∀p:Array Nat,Pm vs.length p->Sto lt p vs.length->P (.done (.ret .none)) {s with heap:=sortedHeap s.heap a vs (p.toList.map λi=>vs.getD i Value.none).toArray}):
  wpAny (model prog w) A (Builtin.«list.sort» ⟨[.ref a],[]⟩) P E s:=by
 rw[list_sort_plain];have ha:a<s.heap.objs.size:=Qa7 ho;refine Gt (listItems_at ho rfl ?_);refine Gt (listUpdate_at ho rfl ?_ (by rw[size_toArray,Qb3];omega) (Qc5 _));obtain⟨e1,ho1⟩:∃e1,(s.heap.update a (Obj.mapSeq λ_=> #[])).get? a=some (seqObj "list" #[] e1):=⟨_,get?_update_seq ho (λ_=> #[])⟩
 refine Gt (seqEpoch_at ho1 rfl ?_);refine Gt (wpAny_newTuple ?_ (by show vs.length<=_;rw[Qb3];omega));refine Gt (wpAny_newList ?_ (Qc5 _));refine Qb9 ?_;have keep:∀b o,b≠a->s.heap.get? b=some o->(((s.heap.update a (Obj.mapSeq λ_=> #[])).push (seqObj "tuple" vs.toArray 0)).push (seqObj "list" #[] 0)).get? b=some o:=λb o ne q=>by
  have hlt:b<s.heap.objs.size:=Qa7 q;rw[Qg7 _ _ _ (by rw[size_push',size_update];exact ne_of_lt (Qe1 hlt)),Qg7 _ _ _ (by rw[size_update];exact ne_of_lt hlt),get?_update_ne _ _ _ _ ne];exact q
 have ho6:(((s.heap.update a (Obj.mapSeq λ_=> #[])).push (seqObj "tuple" vs.toArray 0)).push (seqObj "list" #[] 0)).get? a=some (seqObj "list" #[] e1):=by
  rw[Qg7 _ _ _ (by rw[size_push',size_update];exact ne_of_lt (Qe1 ha)),Qg7 _ _ _ (by rw[size_update];exact ne_of_lt ha)];exact ho1
 show wpAny (model prog w) A _ P E {s with heap:=((s.heap.update a (Obj.mapSeq λ_=> #[])).push (seqObj "tuple" vs.toArray 0)).push (seqObj "list" #[] 0)};dsimp only;have hsz:vs.toArray.size=vs.length:=by simp
 by_cases h2:vs.toArray.size<2
 ·rw[Qa2 h2,Qa2 h2];refine Gt (Qa0 ?_);rw[StateT.run_pure];refine Gt (Qa0 ?_);dsimp only;refine Gt (seqEpoch_at ho6 rfl ?_);refine Gt (listUpdate_at ho6 rfl ?_ (hsz2:=by rw[Array.size_map];show (pairsOf vs).size<=_;rw[pairsOf_size,Qb3];omega));simp only[bne_self_eq_false,Qf9,if_false];have fin:=h (List.range vs.length).toArray (Array.Perm.refl _) (λi j hij hj=>by
   have:i=j:=by omega
   subst this;exact irr O _)
  have e:(List.range vs.length).toArray.toList.map (λi=>vs.getD i Value.none)=vs:=by
   refine ext_getElem? λi=> ?_;simp only[getElem?_map];by_cases hi:i<vs.length
   ·simp[hi]
   ·simp[le_of_not_lt hi]
  rw[e] at fin;have e2:(Array.map (λx=>x.snd) (vs.toArray.zip vs.toArray))=vs.toArray:=by
   apply Array.toList_inj.mp;simp[List.map_snd_zip]
  rw[show Array.map (λx:Keyed=>x.snd) (arrOf (SortSt.mk' general' (vs.toArray.zip vs.toArray) #[] 7 none))=vs.toArray from e2];exact Qa0 fin
 ·rw[Qa1 h2,Qa1 h2];have h2':2<=vs.length:=by rw[hsz] at h2;exact not_lt.mp (by assumption)
  refine Gt (hk _ keep h2' _ ?_);refine Gt (Qe3 (kat_run (ks:=vs) (vs:=vs) (κ:=κ) (Q:=λst' s'=>∃p:Array Nat,s'={s with heap:=((s.heap.update a (Obj.mapSeq λ_=> #[])).push (seqObj "tuple" vs.toArray 0)).push (seqObj "list" #[] 0)}/\Pm vs.length p/\Sto lt p vs.length/\arrOf st'=p.map (kas_item (vs.toArray.zip vs.toArray))/\failedOf st'=none)
   rfl h2' h64 (G:=λp s'=>s'={s with heap:=((s.heap.update a (Obj.mapSeq λ_=> #[])).push (seqObj "tuple" vs.toArray 0)).push (seqObj "list" #[] 0)}/\Pm vs.length p/\Sto lt p vs.length) (λp st' s' a1 a2 a3 a4=>⟨p,a4.1,a4.2.1,a4.2.2,a2,a3⟩) ?_) ?_ λ_ _ e=>e)
  ·exact AsksP.wp (lt:=lt) (hc _ keep) (N7 (by exact le_of_lt (by assumption))) ⟨rfl,(N7 (by exact le_of_lt (by assumption))).ev lt,ev_sort O (by exact le_of_lt (by assumption))⟩
  ·rintro⟨⟨⟩,st'⟩ s' ⟨p,rfl,hp,hs,har,hf⟩;dsimp only;rw[kat_snds rfl har];refine Gt (seqEpoch_at ho6 rfl ?_);refine Gt (listUpdate_at ho6 rfl ?_ (Qc5 _) (by rw[size_toArray,If,length_toList,hp.size,Qb3];omega));rw[hf];simp only[bne_self_eq_false,Qf9,if_false];exact Qa0 (h p hp hs)
theorem Hv{κ:SortKind}{lt:Nat->Nat->Bool}(O:Ord lt){v:Value}(I:List Value->Prop){Q:Value->Shared->Prop}(h64:∀vs,I vs->vs.length<64)(hcol:∀(Q:List Value->Shared->Prop),(∀vs h1 t1,I vs->(∀b o,s.heap.get? b=some o->h1.get? b=some o)->Q vs {s with heap:=h1,toks:=t1})->wpAny (model prog w) A.in1 (collect v) Q E s)(hk:∀vs h' t',I vs->(∀b o,s.heap.get? b=some o->h'.get? b=some o)->2<=vs.length->∀Q:SortKind->Shared->Prop,Q κ {s with heap:=h',toks:=t'}->wpAny (model prog w) A.in1.in1 (keyKind' vs.toArray) Q E {s with heap:=h',toks:=t'})(hc:∀vs h' t',I vs->(∀b o,s.heap.get? b=some o->h'.get? b=some o)->∀i j (C:Bool->Shared->Prop),i<vs.length->j<vs.length->C (lt i j) {s with heap:=h',toks:=t'}->kas_ask prog w A.in1.in1 κ vs i j C {s with heap:=h',toks:=t'})(h:∀vs (p:Array Nat) (h1 h':Heap) t' l e,I vs->Pm vs.length p->Sto lt p vs.length->(∀b o,s.heap.get? b=some o->h1.get? b=some o)->(∀b o,h1.get? b=some o->h'.get? b=some o)->h1.objs.size<=l->h'.get? l=some (seqObj "list" (p.toList.map λi=>vs.getD i Value.none).toArray e)->Q (.ref l) {s with heap:=h',toks:=t'}):
  wpAny (model prog w) A (call (.builtin "sorted") [v]) Q E s:=by
 refine Calls.call_function_entry kind_sorted plain_sorted entry_sorted (args_sorted1 _) ?_;unfold Builtin.«sorted»;refine Gt (m:=checkCount "sorted" 1 1 _) (Qa0 ?_);refine Gt (hcol _ λvs h1 t1 hI k1=> ?_);have h64:=h64 vs hI;refine Gt (wpAny_newList ?_ (by rw[Qb3];omega));have hoL:(h1.push (seqObj "list" vs.toArray 0)).get? h1.objs.size=some (seqObj "list" vs.toArray 0):=Qa5 _ rfl;show wpAny _ _ _ _ _ {s with heap:=h1.push (seqObj "list" vs.toArray 0),toks:=t1};have k3:∀b o,h1.get? b=some o->b≠h1.objs.size/\(h1.push (seqObj "list" vs.toArray 0)).get? b=some o:=λb o q=>
  ⟨ne_of_lt (Qa7 q),Lt _ q⟩
 have k2:∀b o,s.heap.get? b=some o->b≠h1.objs.size/\(h1.push (seqObj "list" vs.toArray 0)).get? b=some o:=λb o q=>k3 b o (k1 b o q);refine Gt (Qb9 (Qd0 slot_list_sort ⟨_,hoL,rfl⟩ entry_list_sort (Nf (s:={s with heap:=h1.push (seqObj "list" vs.toArray 0),toks:=t1}) (κ:=κ) O hoL h64 (λh' k l2 Q q=> ?_) (λh' k i j C hi hj q=> ?_) λp hp hs=>⟨_,rfl,?_⟩) (args_list_sort _)))
 ·exact hk vs h' t1 hI (λb o q=>k b o (k2 b o q).1 (k2 b o q).2) l2 Q q
 ·exact hc vs h' t1 hI (λb o q=>k b o (k2 b o q).1 (k2 b o q).2) i j C hi hj q
 ·refine Qa0 ⟨_,rfl,?_⟩;have hz:h1.objs.size<(h1.push (seqObj "list" vs.toArray 0)).objs.size:=by rw[size_push'];exact Nat.lt_succ_self _
  obtain⟨e,he⟩:∃e,(sortedHeap (h1.push (seqObj "list" vs.toArray 0)) h1.objs.size vs (p.toList.map λi=>vs.getD i Value.none).toArray).get? h1.objs.size=some (seqObj "list" (p.toList.map λi=>vs.getD i Value.none).toArray e):=by
   unfold sortedHeap;obtain⟨e1,ho1⟩:∃e1,((h1.push (seqObj "list" vs.toArray 0)).update h1.objs.size (Obj.mapSeq λ_=> #[])).get? h1.objs.size=some (seqObj "list" #[] e1):=⟨_,get?_update_seq hoL (λ_=> #[])⟩
   have ho6:((((h1.push (seqObj "list" vs.toArray 0)).update h1.objs.size (Obj.mapSeq λ_=> #[])).push (seqObj "tuple" vs.toArray 0)).push (seqObj "list" #[] 0)).get? h1.objs.size=some (seqObj "list" #[] e1):=by
    exact Lt _ (Lt _ ho1)
   exact⟨_,get?_update_seq ho6 λ_=>_⟩
  refine h vs p h1 _ t1 h1.objs.size e hI hp hs k1 (λb o q=> ?_) (le_refl _) he;have q2:=k3 b o q;unfold sortedHeap;rw[get?_update_ne _ _ _ _ q2.1];refine Lt _ (Lt _ ?_);rw[get?_update_ne _ _ _ _ q2.1];exact q2.2
end
end Srt
namespace Srt
open PySem PySem.W PyProof.Rows L2
def ltK:Key->Key->Bool
 | .inl a,.inl b=>decide (a<b)
 | .inr a,.inr b=>decide (a.cps.toList<b.cps.toList)
 | .inl _,.inr _=>true
 | .inr _,.inl _=>false
def ltR:List Key->List Key->Bool
 |x::xs,y::ys=>if x=y then ltR xs ys else ltK x y
 |[],_::_=>true
 |_,[]=>false
theorem str_ext{a b:Str}(h:a.cps.toList=b.cps.toList):a=b:=by
 cases a;cases b;simp at h;rw[h]
theorem Pi:∀a,ltK a a=false
 | .inl a=>by simp[ltK]
 | .inr a=>by simp[ltK,List.lt_irrefl]
theorem ltK_tr:∀{a b c},ltK a b=true->ltK b c=true->ltK a c=true
 | .inl a,.inl b,.inl c,h1,h2=>by simp only[ltK,Qa4] at *;omega
 | .inr a,.inr b,.inr c,h1,h2=>by simp only[ltK,Qa4] at *;exact List.lt_trans h1 h2
 | .inl _,.inl _,.inr _,_,_=>rfl
 | .inl _,.inr _,.inr _,_,_=>rfl
 | .inl _,.inr _,.inl _,_,h2=>by simp[ltK] at h2
 | .inr _,.inl _,_,h1,_=>by simp[ltK] at h1
 | .inr _,.inr _,.inl _,_,h2=>by simp[ltK] at h2
theorem ltK_tri:∀a b,ltK a b=false->a=b\/ltK b a=true
 | .inl a,.inl b,h=>by
  simp only[ltK,Qa4,Qd7] at *;rcases Int.lt_trichotomy a b with x|x|x
  ·exact absurd x h
  ·exact .inl (by rw[x])
  ·exact .inr x
 | .inr a,.inr b,h=>by
  simp only[ltK,Qa4,Qd7] at *;by_cases e:b.cps.toList<a.cps.toList
  ·exact .inr e
  ·exact .inl (Qc7 Sum.inr (str_ext (List.le_antisymm (List.not_lt.mp e) (List.not_lt.mp h))))
 | .inl _,.inr _,h=>by simp[ltK] at h
 | .inr _,.inl _,_=> .inr rfl
theorem Vl:∀a,ltR a a=false
 |[]=>rfl
 |x::xs=>by simp[ltR,Vl xs]
theorem Uy:∀{a b c},ltR a b=true->ltR b c=true->ltR a c=true
 |_,[],_,h,_=>by simp[ltR] at h
 |_,_::_,[],_,h=>by simp[ltR] at h
 |[],_::_,_::_,_,_=>rfl
 |x::xs,y::ys,z::zs,h1,h2=>by
  unfold ltR at h1 h2 ⊢;by_cases e1:x=y
  ·subst e1;rw[Qa2 rfl] at h1;by_cases e2:x=z
   ·rw[Qa2 e2] at h2 ⊢;exact Uy h1 h2
   ·rw[Qa1 e2] at h2 ⊢;exact h2
  ·rw[Qa1 e1] at h1;by_cases e2:y=z
   ·subst e2;rw[Qa1 e1];exact h1
   ·rw[Qa1 e2] at h2;have:=ltK_tr h1 h2;rw[Qa1 (λe=>by rw[e,Pi] at this;cases this)];exact this
theorem Wh:∀a b,ltR a b=false->a=b\/ltR b a=true
 |[],[],_=> .inl rfl
 |[],_::_,h=>by simp[ltR] at h
 |_::_,[],_=> .inr rfl
 |x::xs,y::ys,h=>by
  unfold ltR at h ⊢;by_cases e:x=y
  ·subst e;rw[Qa2 rfl] at h ⊢;rcases Wh xs ys h with r|r
   ·exact .inl (by rw[r])
   ·exact .inr r
  ·rw[Qa1 e] at h;rw[Qa1 (λz=>e z.symm)];exact .inr ((ltK_tri _ _ h).resolve_left e)
theorem R9(f:Nat->List Key):Ord λi j=>ltR (f i) (f j) where
 asym:=λa b h=>by
  cases e:ltR (f b) (f a) with
  |false=>rfl
  |true=>have:=Uy h e;rw[Vl] at this;cases this
 ntr:=λa b c h1 h2=>by
  cases e:ltR (f a) (f c) with
  |false=>rfl
  |true=>
   rcases Wh _ _ h1 with r|r
   ·rw[r,h2] at e;cases e
   ·have:=Uy r e;rw[h2] at this;cases this
def isL:Key->Bool
 | .inl _=>true
 | .inr _=>false
section
variable{prog:Program}{w:World}{A:Around}{E:Value->Shared->Prop}{s:Shared}
theorem key_eq:∀{x y:Key} {u v:Value} {C:Bool->Shared->Prop},isL x=isL y->RelV (kV x) u->RelV (kV y) v->C (decide (x=y)) s->wpAny (model prog w) A (eqBool u v) C E s
 | .inl a,.inl b,_,_,C,_,⟨t,rfl⟩,⟨t',rfl⟩,h=>wpAny_eqBool_int (by
   have:(a==b)=decide ((Sum.inl a:Key)=Sum.inl b):=by simp only[Sum.inl.injEq];rfl
   rw[this];exact h)
 | .inr a,.inr b,_,_,C,_,⟨t,rfl⟩,⟨t',rfl⟩,h=>wpAny_eqBool_str (by
   have:decide (a=b)=decide ((Sum.inr a:Key)=Sum.inr b):=by simp
   rw[this];exact h)
 | .inl _,.inr _,_,_,_,h,_,_,_=>by cases h
 | .inr _,.inl _,_,_,_,h,_,_,_=>by cases h
theorem key_lt:∀{x y:Key} {u v:Value} {b:Bool} {C:Bool->Shared->Prop},isL x=isL y->RelV (kV x) u->RelV (kV y) v->C (ltK x y) s->wpAny (model prog w) A (oneLt' b u v) C E s
 | .inl a,.inl c,_,_,true,C,_,⟨t,rfl⟩,⟨t',rfl⟩,h=>oneLt_int h
 | .inl a,.inl c,_,_,false,C,_,⟨t,rfl⟩,⟨t',rfl⟩,h=>kat_one _ _ (PyProof.Rows.lt_int (show PySem.W.BoolBack C _ s from h))
 | .inr a,.inr c,_,_,true,C,_,⟨t,rfl⟩,⟨t',rfl⟩,h=>oneLt_str h
 | .inr a,.inr c,_,_,false,C,_,⟨t,rfl⟩,⟨t',rfl⟩,h=>kat_one _ _ (PySem.P.lt_str (show PySem.W.BoolBack C _ s from h))
 | .inl _,.inr _,_,_,_,_,h,_,_,_=>by cases h
 | .inr _,.inl _,_,_,_,_,h,_,_,_=>by cases h
theorem lex_go{b fin:Bool}{C:Bool->Shared->Prop}(hf:fin=false):∀{x y:List Key} {us vs:List Value} (i:Nat),x.map isL=y.map isL->Vals (x.map kV) us->Vals (y.map kV) vs->C (ltR x y) s->KatLex prog w A b fin C (us.zip vs) i s
 |[],[],_,_,i,_,.nil,.nil,h=>by subst hf;exact h
 |[],_::_,_,_,_,e,_,_,_=>by cases e
 |_::_,[],_,_,_,e,_,_,_=>by cases e
 |x::xs,y::ys,_,_,i,e,.cons r1 r2,.cons q1 q2,h=>by
  simp only[Qb1,List.cons.injEq] at e;refine kat_cons (key_eq e.1 r1 q1 ?_);unfold ltR at h;by_cases z:x=y
  ·rw[decide_eq_true z];rw[Qa2 z] at h;exact kat_yes (lex_go hf (i+1) e.2 r2 q2 h)
  ·rw[decide_eq_false z];rw[Qa1 z] at h;exact kat_no (key_lt e.1 r1 q1 h)
end
abbrev Row:=Addr×List Key
def rRef(q:Row):V:= .ref q.1
theorem Wa{X:Cx}{pins:List (Addr×Obj)}{σ:L2.St}{H:Hp}{s:Shared}(I:Inv X pins σ H s):∀(ps:List Row),(∀q∈ps,SqT X.K H q.1 (q.2.map kV))->(∀q∈ps,q.2≠[])->
  ∃fs,KatTups s.heap (ps.map λq=>Value.ref q.1) fs/\fs.length=ps.length/\∀v∈fs,∃q∈ps,∃k r,q.2=k::r/\RelV (kV k) v
 |[],_,_=>⟨[],trivial,rfl,λv h=>nomatch h⟩
 |q::ps,h,h0=>by
  obtain⟨fs,t,l,f⟩:=Wa I ps (λq hq=>h q (.tail _ hq)) λq hq=>h0 q (.tail _ hq);obtain⟨its,rv,⟨o,ho,hc,n,hd⟩,hz⟩:=I.tuple (h q (.head _));cases e:q.2 with
  |nil=>exact absurd e (h0 q (.head _))
  |cons k r=>
   rw[e,Qb1] at rv;cases rv with
   | @cons _ u _ us ru rr=>
    refine⟨u::fs,.cons ho hc hd (by simp) t,by simp[l],λv hv=> ?_⟩;rcases Qa6.mp hv with rfl|hv
    ·exact⟨q,.head _,k,r,e,ru⟩
    ·obtain⟨q',h1,k',r',h2,h3⟩:=f v hv;exact⟨q',.tail _ h1,k',r',h2,h3⟩
theorem Wl{M:Model}{h:Heap}:∀{k:Key} {v:Value},RelV (kV k) v->Looks M h (typeOf v) (if isL k=true then Value.type "int" else Value.type "str")
 | .inl i,v,⟨t,e⟩=>by subst e;exact Looks.of_pure rfl
 | .inr x,v,⟨t,e⟩=>by subst e;exact Looks.of_pure rfl
theorem Pm.toList{n:Nat}{p:Array Nat}(h:Pm n p):p.toList.Perm (List.range n):=by
 have:=(Array.perm_iff_toList_perm).mp h;simpa using this
theorem Eg{α:Type}(l:List α)(d:α):(List.range l.length).map (λi=>l.getD i d)=l:=by
 refine ext_getElem? λi=> ?_;simp only[getElem?_map];by_cases hi:i<l.length
 ·simp[hi]
 ·simp[le_of_not_lt hi]
theorem Sto.pairwise{lt:Nat->Nat->Bool}{p:Array Nat}{n:Nat}(hz:p.size=n)(h:Sto lt p n):p.toList.Pairwise λi j=>lt j i=false:=by
 rw[Qe5];intro i j hi hj hij;have:=h i j (le_of_lt hij) (by simpa[<-hz] using hj);simp only[length_toList] at hi hj;have e1:g p i=p.toList[i]:=by simp[g,Array.getD,hi]
 have e2:g p j=p.toList[j]:=by simp[g,Array.getD,hj]
 rw[e1,e2] at this;exact this
theorem K0{α:Type}(f:α->V)(f':α->Value)(hf:∀a,RelV (f a) (f' a)):∀l:List α,Vals (l.map f) (l.map f')
 |[]=> .nil
 |a::l=> .cons (hf a) (K0 f f' hf l)
theorem T8{X:Cx}{pins:List (Addr×Obj)}{σ:L2.St}{H:Hp}{s:Shared}(I:Inv X pins σ H s){v:Value}{ps:List Row}{Q:VK}(hT:∀q∈ps,SqT X.K H q.1 (q.2.map kV))(hS:∀q∈ps,∀q'∈ps,q.2.map isL=q'.2.map isL)(h0:∀q∈ps,q.2≠[])(h64:ps.length<64)(hcol:∀(Q:List Value->Shared->Prop),(∀h1 t1,(∀b o,s.heap.get? b=some o->h1.get? b=some o)->Q (ps.map λq=>Value.ref q.1) {s with heap:=h1,toks:=t1})->wpAny (model X.prog X.w) X.A.in1 (collect v) Q X.xe s)(h:∀(l:Addr) (ps':List Row),H l=none->ps'.Perm ps->ps'.Pairwise (λa b=>ltR b.2 a.2=false)->Q (.ref l) (upd H l (.lst (ps'.map rRef)))):
  wpAny (model X.prog X.w) X.A (call (.builtin "sorted") [v]) (EP X pins σ Q) X.xe s:=by
 have lz:(ps.map λq=>Value.ref q.1).length=ps.length:=If ..;refine Hv (κ:=tuples' true) (R9 λi=>(ps.getD i (0,[])).2) (λvs=>vs=ps.map λq=>Value.ref q.1) (λvs e=>by rw[e,lz];exact h64) (λQ hq=>hcol Q λh1 t1 k=>hq _ h1 t1 rfl k) ?_ ?_ ?_
 ·rintro vs h' t' rfl k l2 Q hq;rw[lz] at l2;have I':Inv X pins σ H {s with heap:=h',toks:=t'}:=I.kept k;obtain⟨fs,t,l,f⟩:=Wa I' ps hT h0;obtain⟨q0,r0,e0⟩:∃q0 r0,ps=q0::r0:=by
   match ps,l2 with
   |q0::r0,_=>exact⟨q0,r0,rfl⟩
  have m0:q0∈ps:=by rw[e0];exact .head _
  obtain⟨k0,r1,e1⟩:∃k0 r1,q0.2=k0::r1:=by
   cases e:q0.2 with
   |nil=>exact absurd e (h0 q0 m0)
   |cons k r=>exact⟨k,r,rfl⟩
  refine kat_kind (s:={s with heap:=h',toks:=t'}) (T:=if isL k0=true then Value.type "int" else Value.type "str") t (by omega) (λv hv=> ?_) (by split<;> rfl) ?_
  ·obtain⟨q,hq,k',r',e',rk⟩:=f v hv;have:=hS q hq q0 m0;rw[e',e1] at this;simp only[Qb1,List.cons.injEq] at this;rw[<-this.1];exact Wl rk
  ·have:((if isL k0=true then Value.type "int" else Value.type "str") !=Value.type "tuple")=true:=by split<;> rfl
   rw[this];exact hq
 ·rintro vs h' t' rfl k i j C hi hj hC;rw[lz] at hi hj;have I':Inv X pins σ H {s with heap:=h',toks:=t'}:=I.kept k;show wpAny _ _ (keyLt' _ ((ps.map λq=>Value.ref q.1).getD i Value.none) ((ps.map λq=>Value.ref q.1).getD j Value.none)) C _ _;have ei:(ps.map λq=>Value.ref q.1).getD i Value.none=Value.ref ps[i].1:=by simp[hi]
  have ej:(ps.map λq=>Value.ref q.1).getD j Value.none=Value.ref ps[j].1:=by simp[hj]
  have fi:ps.getD i (0,[])=ps[i]:=by simp[hi]
  have fj:ps.getD j (0,[])=ps[j]:=by simp[hj]
  rw[ei,ej];rw[fi,fj] at hC;obtain⟨ui,ri,⟨oi,hoi,hci,ni,hdi⟩,zi⟩:=I'.tuple (hT ps[i] (getElem_mem hi));obtain⟨uj,rj,⟨oj,hoj,hcj,nj,hdj⟩,zj⟩:=I'.tuple (hT ps[j] (getElem_mem hj));have sh:=hS _ (getElem_mem hi) _ (getElem_mem hj);have el:ui.length=uj.length:=by
   rw[<-ri.length,<-rj.length,If,If];simpa using Qc7 length sh
  refine kat_lt hoi hdi hoj hdj (lex_go (by simp[el]) 0 sh ri rj hC)
 ·rintro vs p h1 h' t' l e rfl pm st k1 k zl hl;have I:Inv X pins σ H {s with heap:=h1,toks:=t'}:=I.kept k1;have pl:=pm.toList;rw[lz] at pl pm st;have hz:=pm.size;have mem:∀i∈p.toList,i<ps.length:=λi hi=>by simpa using pl.mem_iff.mp hi
  have e1:(p.toList.map λi=>(ps.map λq=>Value.ref q.1).getD i Value.none)=(p.toList.map λi=>ps.getD i (0,[])).map λq=>Value.ref q.1:=by
   rw[map_map];refine map_congr_left λi hi=> ?_;have:=mem i hi;simp[this]
  rw[e1] at hl;have pp:(p.toList.map λi=>ps.getD i (0,[])).Perm ps:=by
   have:=pl.map (λi=>ps.getD i ((0,[]):Row))
   rwa [Eg] at this
  have pw:(p.toList.map λi=>ps.getD i ((0,[]):Row)).Pairwise (λa b=>ltR b.2 a.2=false):=by
   rw[Qc4];exact st.pairwise hz
  refine⟨.ref l,_,I.laid (t':=t') (o:= .lst ((p.toList.map λi=>ps.getD i (0,[])).map rRef)) k zl ⟨?_,_,e,K0 rRef (λq=>Value.ref q.1) (λ_=>rfl) _,hl⟩,rfl,h l _ (I.hok.fresh zl) pp pw⟩;rw[If,pp.length_eq,Qb3];omega
structure RowsOk(K:Frag)(H:Hp)(ps:List Row):Prop where
 at':∀q∈ps,SqT K H q.1 (q.2.map kV)
 sh:∀q∈ps,∀q'∈ps,q.2.map isL=q'.2.map isL
 ne:∀q∈ps,q.2≠[]
 few:ps.length<64
section
variable{X:Cx}
def viewO(d:Addr):Obj:={cls:= .type "dict_values",data:= .fields #[.ref d]}
theorem Z0{kvs:List (Key×V)}{vs:List (Key×Value)}{ps:List Row}(rel:KV kvs vs)(e:kvs.map (·.2)=ps.map rRef):vs.map (·.2)=ps.map λq=>Value.ref q.1:=by
 induction rel generalizing ps with
 |nil=>
  cases ps with
  |nil=>rfl
  |cons _ _=>cases e
 | @cons a b l1 l2 r t ih=>
  cases ps with
  |nil=>cases e
  |cons q ps=>
   simp only[Qb1,List.cons.injEq] at e ⊢;refine⟨?_,ih e.2⟩;have:=r.2;rw[e.1] at this;exact this
theorem call_sortedV(hc:X.calm=true):Dv X (.builtin "sorted") (λxs H Q=>∃(v d:Addr) (kvs:List (Key×V)) (ps:List Row),xs=[.ref v]/\H v=some (.frz (viewO d) (.own 0))/\H d=some (.dK kvs)/\kvs.map (·.2)=ps.map rRef/\RowsOk X.K H ps/\∀(l:Addr) (ps':List Row),H l=none->ps'.Perm ps->ps'.Pairwise (λa b=>ltR b.2 a.2=false)->Q (.ref l) (upd H l (.lst (ps'.map rRef)))):=by
 intro pins s σ H xs us Q I r h;obtain⟨v,d,kvs,ps,rfl,hv,hd,e,ok,q⟩:=h;obtain⟨u,rfl,rx⟩:=Dg r;cases rx;obtain⟨z,lo,vs,rel,dd⟩:=Ih I.hok hd;obtain⟨ep,hat⟩:=dd.dictAt;obtain⟨ho,_⟩:=(show ObjOk X.prog X.w H s.heap v (.frz (viewO d) (.own 0)) from I.hok v _ hv)
 refine T8 I ok.at' ok.sh ok.ne ok.few (λQ hq=> ?_) q;refine kdu_collect (A:=X.A.in1) (kdl_values (knd:=Bg X.prog X.w) (r:=v) (kvs:=vs) (ep:=ep)) (I.ok.hd hc) ⟨⟨_,ho,rfl,rfl⟩,hat⟩ (by rw[<-rel.length];exact z) λh' tk acc hk hacc=> ?_;have ea:acc.toList=ps.map λq=>Value.ref q.1:=by
  rw[<-Z0 rel e];refine ext_getElem? λi=> ?_;rw[getElem?_map];by_cases hi:i<vs.length
  ·have hi':i<acc.size:=by rw[hacc.1];exact hi
   obtain⟨k,hx⟩:=hacc.2 i acc[i] (by simp[hi']);rw[hx];simp[hi']
  ·rw[getElem?_eq_none (by rw[length_toList,hacc.1];exact not_lt.mp (by assumption)),getElem?_eq_none (by exact not_lt.mp (by assumption))];rfl
 rw[ea];exact hq h' tk hk
theorem call_sortedD(hc:X.calm=true):Dv X (.builtin "sorted") (λxs H Q=>∃(d:Addr) (kvs:List (Key×V)) (ns:List Str),xs=[.ref d]/\H d=some (.dK kvs)/\kvs.map (·.1)=ns.map Sum.inr/\ns.length<64/\∀(l:Addr) (ns':List Str),H l=none->ns'.Perm ns->ns'.Pairwise (λa b=>ltK (.inr b) (.inr a)=false)->Q (.ref l) (upd H l (.lst (ns'.map V.str)))):=by
 intro pins s σ H xs us Q I r h;obtain⟨d,kvs,ns,rfl,hd,e,h64,q⟩:=h;obtain⟨u,rfl,rx⟩:=Dg r;cases rx;obtain⟨z,lo,vs,rel,dd⟩:=Ih I.hok hd;obtain⟨ep,hat⟩:=dd.dictAt;have ek:vs.map (·.1)=ns.map Sum.inr:=by
  rw[<-e];clear hat dd e q z hd
  induction rel with
  |nil=>rfl
  |cons r t ih=>rw[Qb1,Qb1,ih,r.1]
 have len:vs.length=ns.length:=by simpa using Qc7 length ek
 refine Hv (κ:=oneType') (R9 λi=>[Sum.inr (ns.getD i default)]) (λus=>Vals (ns.map V.str) us) (λus hu=>by have:=hu.length;rw[If] at this;omega) (λQ hq=> ?_) ?_ ?_ ?_
 ·refine kdu_collect (A:=X.A.in1) (kdl_dict (knd:=Bg X.prog X.w) (kvs:=vs) (ep:=ep) lo) (I.ok.hd hc) hat (by rw[<-rel.length];exact z) λh' tk acc hk hacc=>hq _ h' tk ?_ hk;have go:∀(vs:List (Key×Value)) (ns:List Str) (us:List Value),vs.map (·.1)=ns.map Sum.inr->us.length=vs.length->(∀(j:Nat) (u:Value),us[j]? =some u->∃k x,vs[j]? =some (k,x)/\(Bg X.prog X.w).is k u=true)->Vals (ns.map V.str) us:=by
   intro vs
   induction vs with
   |nil=>
    intro ns us e1 e2 _;cases ns with
    |nil=>cases us with
     |nil=>exact .nil
     |cons _ _=>cases e2
    |cons _ _=>cases e1
   |cons p vs ih=>
    intro ns us e1 e2 h;cases ns with
    |nil=>cases e1
    |cons n ns=>
     cases us with
     |nil=>cases e2
     |cons u us=>
      simp only[Qb1,List.cons.injEq] at e1;refine .cons ?_ (ih ns us e1.2 (by simpa using e2) λj u hj=>h (j+1) u (by simpa using hj));obtain⟨k,x,hx,hk⟩:=h 0 u rfl;simp only[List.getElem?_cons_zero,Option.some.injEq] at hx;have:k=Sum.inr n:=by rw[<-e1.1,hx]
      subst this;rcases Bm (show K9 (Sum.inr n) u=true from hk) with⟨i,t,a,_⟩|⟨y,t,a,b⟩
      ·cases a
      ·cases a;exact⟨t,b⟩
  exact go vs ns acc.toList ek (by rw[length_toList];exact hacc.1) λj u hj=>hacc.2 j u (by rw[<-Qf4];exact hj)
 ·intro us h' t' hu k l2 Q hq;refine kas_kind (s:={s with heap:=h',toks:=t'}) (T:=Value.type "str") l2 (λv hv=> ?_) rfl rfl hq;clear hq l2;have:∀{ns:List Str} {us:List Value},Vals (ns.map V.str) us->∀v∈us,∃x t,v=Value.str x t:=by
   intro ns
   induction ns with
   |nil=>intro us hu v hv;cases hu;cases hv
   |cons n ns ih=>
    intro us hu v hv;cases hu with
    |cons r t=>
     rcases Qa6.mp hv with rfl|hv
     ·obtain⟨t,rfl⟩:=r;exact⟨_,_,rfl⟩
     ·exact ih t v hv
  obtain⟨x,t,rfl⟩:=this hu v hv;exact Looks.of_pure rfl
 ·intro us h' t' hu k i j C hi hj hC;have lu:=hu.length;rw[If] at lu;obtain⟨a,ha,ra⟩:=Vals.get hu (i:=i) (x:=V.str (ns.getD i default)) (by simp[show i<ns.length by omega]);obtain⟨b,hb,rb⟩:=Vals.get hu (i:=j) (x:=V.str (ns.getD j default)) (by simp[show j<ns.length by omega]);show wpAny _ _ (keyLt' oneType' (us.getD i Value.none) (us.getD j Value.none)) C _ _;have e1:us.getD i Value.none=a:=by simp[getD,ha]
  have e2:us.getD j Value.none=b:=by simp[getD,hb]
  rw[e1,e2,keyLt'_oneType];refine key_lt (x:=Sum.inr (ns.getD i default)) (y:=Sum.inr (ns.getD j default)) rfl ra rb ?_;have:ltR [Sum.inr (ns.getD i default)] [Sum.inr (ns.getD j default)]=ltK (Sum.inr (ns.getD i default)) (Sum.inr (ns.getD j default)):=by
   unfold ltR;split
   ·rename_i e;rw[e,Pi];rfl
   ·rfl
  rw[<-this];exact hC
 ·intro us p h1 h' t' l e hu pm st k1 k zl hl;have lu:=hu.length;rw[If] at lu;have I:L2.Inv X pins σ H {s with heap:=h1,toks:=t'}:=I.kept k1;rw[<-lu] at pm st;have pl:=pm.toList;have pp:(p.toList.map λi=>ns.getD i default).Perm ns:=by
   have:=pl.map (λi=>ns.getD i (default:Str))
   rwa [Eg] at this
  have pw:(p.toList.map λi=>ns.getD i (default:Str)).Pairwise (λa b=>ltK (.inr b) (.inr a)=false):=by
   rw[Qc4];refine(st.pairwise pm.size).imp λ{a b} hab=> ?_;unfold ltR at hab;split at hab
   ·rename_i e;rw[e];exact Pi _
   ·exact hab
  have mem:∀i∈p.toList,i<ns.length:=λi hi=>by simpa using pl.mem_iff.mp hi
  have vv:Vals ((p.toList.map λi=>ns.getD i default).map V.str) (p.toList.map λi=>us.getD i Value.none):=by
   clear hl pw pp pl st pm;generalize p.toList=il at mem
   induction il with
   |nil=>exact .nil
   |cons i il ih=>
    refine .cons ?_ (ih λj hj=>mem j (.tail _ hj));have hi:=mem i (.head _);obtain⟨a,ha,ra⟩:=Vals.get hu (i:=i) (x:=V.str (ns.getD i default)) (by simp[hi]);have e1:us.getD i Value.none=a:=by simp[getD,ha]
    show L2.RelV (V.str (ns.getD i default)) (us.getD i Value.none);rw[e1];exact ra
  refine⟨.ref l,_,I.laid (t':=t') (o:= .lst ((p.toList.map λi=>ns.getD i default).map V.str)) k zl ⟨?_,_,e,vv,hl⟩,rfl,q l _ (I.hok.fresh zl) pp pw⟩;rw[If,pp.length_eq,Qb3];omega
def tDVals(td:TE):TE:=λσ H Q=>td σ H λx H1=>∃a kvs,x= .ref a/\H1 a=some (.dK kvs)/\∀v,H1 v=none->Q (.ref v) (upd H1 v (.frz (viewO a) (.own 0)))
theorem pe_dvals{o:Expr}{td:TE}{apos cpos:Pos}(ho:PE X o td)(hbase:attributeBase o "values" X.env (eval o X.env)=eval o X.env)(hline:(apos.endLine==cpos.line)=true):PE X (.Call (.Attribute o "values" apos) [] [] cpos) (tDVals td):=by
 intro pins s σ H Q I h;refine wpAny_Call_method hbase rfl hline plainAttrs_dict PySem.F.slot_dict_values PySem.F.type_dict_values (thn (ho pins s σ H _ I h) λu s1 ⟨x,H1,I1,rx,a,kvs,ex,d,q1⟩=> ?_);subst ex;obtain rfl:u=Value.ref a:=rx;obtain⟨t1,t2,_⟩:=O6 I1 (.inl ⟨kvs,.inl d⟩);refine⟨t1,t2,?_⟩;obtain⟨z,lo,vs,rel,dd⟩:=Ih I1.hok d;refine Calls.callWith_builtin rfl (PySem.evalArgs_none ?_);exact Qg6 PySem.F.slot_dict_values dd.typeIs PySem.F.entry_dict_values (PySem.F.args_dict_values_1 _) (meets_dict_values (Bg X.prog X.w) a lo) ⟨⟨vs,dd⟩,.ref s1.heap.objs.size,_,I1.laid (t':=s1.toks) (o:= .frz (viewO a) (.own 0)) (λ_ _ q=>Lt _ q) (le_refl _) ⟨Qa5 _ rfl,_,Qa5 _ rfl⟩,rfl,q1 _ I1.fresh⟩
end
end Srt
namespace L2
open PySem PySem.Spec PyProof.Rows
section
variable{X:Cx}
inductive Qm(x:V)(vs:List V)(H:Hp)(Q:VK):Prop
 |mk (z y:Str) (i:Nat) (rest:List Nat):(x= .str z)->(vs=[.str y])->(Builtin.Str.occurrences z y 0 z.length 1=i::rest)->(Q (.int i) H)->Qm x vs H Q
def rIndexS:V->List V->Hp->VK->Prop:=λx vs H Q=>Qm x vs H Q
theorem No:MtM X "str.index" rIndexS:=by
 intro pins s σ H x xs v us Q I rx r h;obtain⟨z,y,i,rest,rfl,rfl,ho,q⟩:=h;obtain⟨t,rfl⟩:=rx;obtain⟨u,rfl,⟨t2,rfl⟩⟩:=Dg r;refine call_gives slot_str_index (typeIs_str _ _ _) PySem.F.entry_str_index (PySem.F.args_str_index_2 _ _) (gives_str_index z y t t2 i rest ho) ?_;exact⟨.int i,H,I.tok _,⟨_,rfl⟩,q⟩
end
theorem op_neNil{X:Cx}(hu:X.A.units+64<cLine):OpR X (compareOp .NotEq) (λx y H Q=>∃(a b:Addr) (xs:List V),x= .ref a/\y= .ref b/\SqL X.K H a xs/\SqL X.K H b []/\Q (.bl (!xs.isEmpty)) H):=by
 intro pins s σ H x y u v Q I rx ry h;obtain⟨a,b,xs,rfl,rfl,ha,hb,q⟩:=h;cases rx;cases ry;cases xs with
 |nil=>exact op_neD hu pins s σ H (.ref a) (.ref b) _ _ Q I rfl rfl ⟨.list [],.list [],.lst ha .nil,.lst hb .nil,rfl,rfl,by decide,q⟩
 |cons x xs=>
  obtain⟨its,r1,h1,_⟩:=I.list ha;obtain⟨its2,r2,h2,_⟩:=I.list hb;have l1:=r1.length;have l2:=r2.length;refine SeqAt.RcNeAt.lists_lengths h1.isList h2.isList (by simp at l1 l2 ⊢;omega) (by omega) X.prog X.w _ _ ⟨.bl _,H,I,rfl,q⟩
theorem Xh{K:Frag}{a:Addr}{xs:List V}{g:TG}{tb:TS}{D:Ey}{σ:St}{H:Hp}(Pv:Nat->St->Hp->Prop)(h0:Pv 0 σ H)(hl:∀i σ H,i<=xs.length->Pv i σ H->SqT K H a xs)(hs:∀i x σ H T,xs[i]? =some x->Pv i σ H->H T=none->g (.ref T) σ (upd H T (.tup [.int (i:Nat),x])) λσ2 H2=>tb {D with nx:=Pv (i+1),ct:=Pv (i+1),bk:=D.nx} σ2 H2)(hd:∀σ H,Pv xs.length σ H->D.nx σ H):
  ∃W:Nat->Nat->St->Hp->Prop,(∃m,W 0 m σ H)/\∀i m σ H,W i m σ H->
   ((Wv K a).stop i H/\D.nx σ H)\/((Wv K a).go i H/\∃N:St->Hp->Prop,(∀σ' H',N σ' H'->∃m',m'<m/\W (i+1) m' σ' H')/\∀x H',(Wv K a).yld i H x H'->g x σ H' λσ2 H2=>tb {D with nx:=N,ct:=N,bk:=D.nx} σ2 H2):=by
 refine⟨λi m σ H=>m=xs.length - i/\i<=xs.length/\Pv i σ H,⟨xs.length,by simp,Qc5 _,h0⟩,?_⟩;rintro i m σ H ⟨rfl,hi,p⟩;have q:=hl i σ H hi p;by_cases hlt:i<xs.length
 ·refine .inr ⟨⟨xs,xs[i],q,by simp[hlt]⟩,Pv (i+1),λσ' H' p'=>⟨xs.length - (i+1),by omega,rfl,hlt,p'⟩,λx H' y=> ?_⟩;obtain⟨T,z,hT,rfl,rfl,y⟩:=y;exact hs i z σ H T (y xs q) p hT
 ·have e:i=xs.length:=by omega
  subst e;exact .inl ⟨⟨xs,q,rfl⟩,hd σ H p⟩
theorem Xp{X:Cx}(hu:X.A.units<cLine):OpR X (compareOp .NotEq) (λx y H Q=>∃(a b:Addr) (kvs:List (Key×V)),x= .ref a/\y= .ref b/\H a=some (.dK kvs)/\H b=some (.dK [])/\Q (.bl (!kvs.isEmpty)) H):=by
 intro pins s σ H x y u v Q I rx ry h;obtain⟨a,b,kvs,rfl,rfl,ha,hb,q⟩:=h;cases rx;cases ry;obtain⟨z,lo,vs,rel,dd⟩:=Ih I.hok ha;obtain⟨z2,lo2,vs2,rel2,dd2⟩:=Ih I.hok hb;cases rel2;have e:=rel.length;refine PySem.W.keq_ne (r:=true) lo lo2 dd dd2 hu (λl=> ?_) ⟨.bl (!kvs.isEmpty),H,I,?_,q⟩
 ·have:vs=[]:=List.length_eq_zero_iff.mp l;subst this;exact .nil
 ·have:(!(vs.length==([]:List (Key×Value)).length && true))= !kvs.isEmpty:=by
   cases kvs with
   |nil=>cases rel;rfl
   |cons _ _=>cases rel;rfl
  rw[this];rfl
end L2
namespace Wk
open PySem
abbrev T4:=Str×Nat×Nat×Int
def nbT(v:Nat)(t:T4):List (Str×Nat):=(if t.2.1=v then [(t.1,t.2.2.1)] else [])++(if t.2.2.1=v then [(t.1,t.2.1)] else [])
def Bp(S:List T4)(v:Nat):List (Str×Nat):=S.flatMap (nbT v)
abbrev Ws:=List (Option (List Str))
def Bv(w:List Str):List (Str×Nat)->Ws×List Nat->Ws×List Nat
 |[],st=>st
 |(n,u)::r,st=>if st.1[u]? =some none then Bv w r (st.1.set u (some (w++[n])),st.2++[u]) else Bv w r st
def Ez(S:List T4)(st:Ws×List Nat):Ws×List Nat:=
 match st.2 with
 |[]=>st
 |h::rest=>Bv ((st.1[h]?.join).getD []) (Bp S h) (st.1,rest)
def Bz(N p:Nat):Ws×List Nat:=((replicate N none).set p (some []),[p])
def iter(S:List T4):Nat->Ws×List Nat->Ws×List Nat
 |0,st=>st
 |n+1,st=>iter S n (Ez S st)
def Dq(N:Nat)(S:List T4)(p:Nat):Ws:=(iter S 64 (Bz N p)).1
theorem Ix{S:List T4}:∀(n:Nat) {ws:Ws},iter S n (ws,[])=(ws,[])
 |0,_=>rfl
 |n+1,ws=>Ix n (ws:=ws)
theorem Ny{S:List T4}:∀(n:Nat) (st:Ws×List Nat),iter S (n+1) st=Ez S (iter S n st)
 |0,st=>rfl
 |n+1,st=>Ny n (Ez S st)
theorem Rn{S:List T4}(m:Nat):∀(n:Nat) (st:Ws×List Nat),iter S (n+m) st=iter S m (iter S n st)
 |0,st=>by rw[Nat.zero_add];rfl
 |n+1,st=>by rw[show n+1+m=(n+m)+1 by omega];exact Rn m n (Ez S st)
theorem Kk{N p i:Nat}{S:List T4}{ws:Ws}(h:iter S i (Bz N p)=(ws,[]))(hi:i<=64):Dq N S p=ws:=by
 unfold Dq;rw[show 64=i+(64 - i) by omega,Rn,h,Ix]
inductive Lead(S:List T4)(a:Nat):List Str->Nat->Prop
 |nil:Lead S a [] a
 |snoc {ws:List Str} {b c:Nat} {n:Str}:Lead S a ws b->(n,c)∈Bp S b->Lead S a (ws++[n]) c
def C6(ws:Ws):Nat:=ws.countP (·==none)
def Vis(ws:Ws)(v:Nat)(w:List Str):Prop:=ws[v]? =some (some w)
structure PInv(S:List T4)(N p h:Nat)(w:List Str)(st:Ws×List Nat):Prop where
 len:st.1.length=N
 lead:∀v x,Vis st.1 v x->Lead S p x v
 vis:∀v∈st.2,∃x,Vis st.1 v x
 done:∀v x,Vis st.1 v x->v∈st.2\/v=h\/∀nb∈Bp S v,∃y,Vis st.1 nb.2 y/\y.length<=x.length+1
 sorted:st.2.Pairwise λa b=>∀x y,Vis st.1 a x->Vis st.1 b y->x.length<=y.length
 top:∀v x b y,Vis st.1 v x->b∈st.2->Vis st.1 b y->x.length<=y.length+1
 hv:Vis st.1 h w
 ht:∀v x,Vis st.1 v x->x.length<=w.length+1
 hb:∀b y,b∈st.2->Vis st.1 b y->w.length<=y.length
theorem Bl{ws:Ws}{u:Nat}{z:List Str}(hu:ws[u]? =some none){v:Nat}{x:List Str}:Vis (ws.set u (some z)) v x↔(v=u/\x=z)\/Vis ws v x:=by
 unfold Vis;have hl:u<ws.length:=(List.getElem?_eq_some_iff.mp hu).1;rw[List.getElem?_set];by_cases e:u=v
 ·subst e;rw[Qa2 rfl,Qa2 hl,hu];constructor
  ·intro q;left;exact⟨rfl,by simpa using q.symm⟩
  ·rintro(⟨_,rfl⟩|q)
   ·rfl
   ·simp at q
 ·rw[Qa1 e];constructor
  ·exact .inr
  ·rintro(⟨rfl,_⟩|q)
   ·exact absurd rfl e
   ·exact q
theorem Kn{ws:Ws}{v:Nat}{x y:List Str}(a:Vis ws v x)(b:Vis ws v y):x=y:=by
 unfold Vis at a b;rw[a] at b;simpa using b
theorem Iy{S:List T4}{N p h:Nat}{w:List Str}:∀(L:List (Str×Nat)) (st:Ws×List Nat),PInv S N p h w st->(∀nb∈L,nb∈Bp S h/\nb.2<N)->
  PInv S N p h w (Bv w L st)/\(∀v x,Vis st.1 v x->Vis (Bv w L st).1 v x)/\(∀nb∈L,∃y,Vis (Bv w L st).1 nb.2 y/\y.length<=w.length+1)/\C6 (Bv w L st).1+(Bv w L st).2.length=C6 st.1+st.2.length
 |[],st,I,_=>⟨I,λ_ _ e=>e,λnb h=>(by cases h),rfl⟩
 |(n,u)::r,st,I,hL=>by
  have hr:∀nb∈r,nb∈Bp S h/\nb.2<N:=λnb q=>hL nb (Qa8 _ q);have hn:=hL (n,u) (Qa9 ..);have hu:u<st.1.length:=by rw[I.len];exact hn.2
  unfold Bv;by_cases e:st.1[u]? =some none
  ·rw[Qa2 e];have I':PInv S N p h w (st.1.set u (some (w++[n])),st.2++[u]):=by
    have nu:∀x,¬Vis st.1 u x:=λx q=>by unfold Vis at q;rw[e] at q;simp at q
    refine⟨by simp[I.len],?_,?_,?_,?_,?_,?_,?_,?_⟩
    ·intro v x q;rcases(Bl e).mp q with⟨rfl,rfl⟩|q
     ·exact .snoc (I.lead h w I.hv) hn.1
     ·exact I.lead v x q
    ·intro v q;rcases mem_append.mp q with q|q
     ·obtain⟨x,hx⟩:=I.vis v q;exact⟨x,(Bl e).mpr (.inr hx)⟩
     ·rw[mem_singleton.mp q];exact⟨_,(Bl e).mpr (.inl ⟨rfl,rfl⟩)⟩
    ·intro v x q;rcases(Bl e).mp q with⟨rfl,rfl⟩|q
     ·exact .inl (mem_append_right _ (mem_singleton.mpr rfl))
     ·rcases I.done v x q with a|a|a
      ·exact .inl (mem_append_left _ a)
      ·exact .inr (.inl a)
      ·exact .inr (.inr λnb hb=>let ⟨y,hy,hl⟩:=a nb hb;⟨y,(Bl e).mpr (.inr hy),hl⟩)
    ·refine Qg2.mpr ⟨?_,Qf2 ..,?_⟩
     ·refine(Pairwise.imp_of_mem ?_ I.sorted);intro a b ha hb k x y hx hy;have hx':Vis st.1 a x:=by
       rcases(Bl e).mp hx with⟨rfl,_⟩|q
       ·obtain⟨z,hz⟩:=I.vis _ ha;exact absurd hz (nu z)
       ·exact q
      have hy':Vis st.1 b y:=by
       rcases(Bl e).mp hy with⟨rfl,_⟩|q
       ·obtain⟨z,hz⟩:=I.vis _ hb;exact absurd hz (nu z)
       ·exact q
      exact k x y hx' hy'
     ·intro a ha b hb x y hx hy;rw[mem_singleton.mp hb] at hy;rcases(Bl e).mp hy with⟨_,rfl⟩|q
      ·rcases(Bl e).mp hx with⟨_,rfl⟩|q
       ·exact le_refl _
       ·have:=I.ht a x q;simp only[Qa3,Qb4,Qe9];assumption
      ·exact absurd q (nu y)
    ·intro v x b y hx hb hy;have hx1:x.length<=w.length+1:=by
      rcases(Bl e).mp hx with⟨_,rfl⟩|q
      ·simp
      ·exact I.ht v x q
     have hy1:w.length<=y.length:=by
      rcases(Bl e).mp hy with⟨_,rfl⟩|q
      ·simp
      ·rcases mem_append.mp hb with hb|hb
       ·exact I.hb b y hb q
       ·rw[mem_singleton.mp hb] at q;exact absurd q (nu y)
     omega
    ·exact(Bl e).mpr (.inr I.hv)
    ·intro v x hx;rcases(Bl e).mp hx with⟨_,rfl⟩|q
     ·simp
     ·exact I.ht v x q
    ·intro b y hb hy;rcases(Bl e).mp hy with⟨_,rfl⟩|q
     ·simp
     ·rcases mem_append.mp hb with hb|hb
      ·exact I.hb b y hb q
      ·rw[mem_singleton.mp hb] at q;exact absurd q (nu y)
   obtain⟨a,b,c,d⟩:=Iy r _ I' hr;refine⟨a,λv x q=>b v x ((Bl e).mpr (.inr q)),λnb q=> ?_,?_⟩
   ·rcases Qa6.mp q with rfl|q
    ·exact⟨_,b _ _ ((Bl e).mpr (.inl ⟨rfl,rfl⟩)),by simp⟩
    ·exact c nb q
   ·rw[d];have:C6 (st.1.set u (some (w++[n])))+1=C6 st.1:=by
     unfold C6;have hg:st.1[u]=none:=by have:=List.getElem?_eq_some_iff.mp e;exact this.2
     rw[List.countP_set (h:=hu),hg];have:0<st.1.countP (·==none):=List.countP_pos_iff.mpr ⟨none,by rw[<-hg];exact getElem_mem hu,rfl⟩;simp only[beq_self_eq_true,Qe7];show st.1.countP (·==none) - 1+0+1=_;omega
    simp only[Qa3,Qb4,Qe9];omega
  ·rw[Qa1 e];obtain⟨a,b,c,d⟩:=Iy r st I hr;refine⟨a,b,λnb q=> ?_,d⟩;rcases Qa6.mp q with rfl|q
   ·have:∃y,Vis st.1 u y:=by
     cases hh:st.1[u]? with
     |none=>rw[getElem?_eq_getElem hu] at hh;cases hh
     |some z=>cases z with
      |none=>exact absurd hh e
      |some y=>exact⟨y,hh⟩
    obtain⟨y,hy⟩:=this;exact⟨y,b _ _ hy,I.ht _ _ hy⟩
   ·exact c nb q
structure Nk(S:List T4)(N p:Nat)(st:Ws×List Nat):Prop where
 len:st.1.length=N
 p0:Vis st.1 p []
 lead:∀v x,Vis st.1 v x->Lead S p x v
 vis:∀v∈st.2,∃x,Vis st.1 v x
 done:∀v x,Vis st.1 v x->v∈st.2\/∀nb∈Bp S v,∃y,Vis st.1 nb.2 y/\y.length<=x.length+1
 sorted:st.2.Pairwise λa b=>∀x y,Vis st.1 a x->Vis st.1 b y->x.length<=y.length
 top:∀v x b y,Vis st.1 v x->b∈st.2->Vis st.1 b y->x.length<=y.length+1
def InN(N:Nat)(S:List T4):Prop:=∀t∈S,t.2.1<N/\t.2.2.1<N
theorem Rm{N:Nat}{S:List T4}(h:InN N S){v:Nat}{nb:Str×Nat}(q:nb∈Bp S v):nb.2<N:=by
 obtain⟨t,ht,q⟩:=mem_flatMap.mp q;have:=h t ht;unfold nbT at q;rcases mem_append.mp q with q|q
 ·split at q
  ·rw[mem_singleton.mp q];exact this.2
  ·cases q
 ·split at q
  ·rw[mem_singleton.mp q];exact this.1
  ·cases q
theorem binv0{S:List T4}{N p:Nat}(hp:p<N):Nk S N p (Bz N p):=by
 have hu:(replicate N (none:Option (List Str)))[p]? =some none:=by rw[getElem?_replicate];rw[Qa2 hp]
 have nv:∀v x,¬Vis (replicate N (none:Option (List Str))) v x:=λv x q=>by
  unfold Vis at q;rw[getElem?_replicate] at q;split at q<;> simp at q
 have key:∀v x,Vis (Bz N p).1 v x->v=p/\x=[]:=λv x q=>by
  rcases(Bl hu).mp q with q|q
  ·exact q
  ·exact absurd q (nv v x)
 refine⟨by simp[Bz],(Bl hu).mpr (.inl ⟨rfl,rfl⟩),?_,?_,?_,?_,?_⟩
 ·intro v x q;obtain⟨rfl,rfl⟩:=key v x q;exact .nil
 ·intro v q;rw[mem_singleton.mp q];exact⟨_,(Bl hu).mpr (.inl ⟨rfl,rfl⟩)⟩
 ·intro v x q;obtain⟨rfl,rfl⟩:=key v x q;exact .inl (mem_singleton.mpr rfl)
 ·exact Qf2 ..
 ·intro v x b y q _ q2;obtain⟨rfl,rfl⟩:=key v x q;simp
theorem N0{N p:Nat}(hp:p<N){v:Nat}{x:List Str}(q:Vis (Bz N p).1 v x):x=[]:=by
 have hu:(replicate N (none:Option (List Str)))[p]? =some none:=by rw[getElem?_replicate];rw[Qa2 hp]
 rcases(Bl hu).mp q with q|q
 ·exact q.2
 ·unfold Vis at q;rw[getElem?_replicate] at q;split at q<;> simp at q
theorem O7{S:List T4}{N p h:Nat}{ws:Ws}{rest:List Nat}(I:Nk S N p (ws,h::rest)):∃w,Vis ws h w/\PInv S N p h w (ws,rest):=by
 obtain⟨w,hw⟩:=I.vis h (Qa9 ..);refine⟨w,hw,I.len,I.lead,λv q=>I.vis v (Qa8 _ q),?_,(pairwise_cons.mp I.sorted).2,λv x b y a q=>I.top v x b y a (Qa8 _ q),hw,λv x q=>I.top v x h w q (Qa9 ..) hw,λb y q hb=>(pairwise_cons.mp I.sorted).1 b q w y hw hb⟩;intro v x q;rcases I.done v x q with a|a
 ·rcases Qa6.mp a with rfl|a
  ·exact .inr (.inl rfl)
  ·exact .inl a
 ·exact .inr (.inr a)
theorem M0{S:List T4}{N p h:Nat}{ws:Ws}{rest:List Nat}(hS:InN N S)(I:Nk S N p (ws,h::rest)):
  Nk S N p (Ez S (ws,h::rest))/\C6 (Ez S (ws,h::rest)).1+(Ez S (ws,h::rest)).2.length+1=C6 ws+(h::rest).length:=by
 obtain⟨w,hw,J⟩:=O7 I;have e:Ez S (ws,h::rest)=Bv w (Bp S h) (ws,rest):=by
  show Bv ((ws[h]?.join).getD []) (Bp S h) (ws,rest)=_;unfold Vis at hw;rw[hw];rfl
 rw[e];obtain⟨a,b,c,d⟩:=Iy (Bp S h) (ws,rest) J λnb q=>⟨q,Rm hS q⟩
 refine⟨⟨a.len,b _ _ I.p0,a.lead,a.vis,?_,a.sorted,a.top⟩,by rw[d];rfl⟩;intro v x q;rcases a.done v x q with r|rfl|r
 ·exact .inl r
 ·refine .inr λnb hb=> ?_;have:=Kn q a.hv;subst this;exact c nb hb
 ·exact .inr r
theorem Vm{S:List T4}{N p:Nat}(hS:InN N S):∀(n:Nat) (st:Ws×List Nat),Nk S N p st->Nk S N p (iter S n st)/\((iter S n st).2=[]\/C6 (iter S n st).1+(iter S n st).2.length+n=C6 st.1+st.2.length)
 |0,st,I=>⟨I,.inr rfl⟩
 |n+1,(ws,[]),I=>by
  have e:iter S (n+1) (ws,[])=(ws,[]):=Ix (n+1);rw[e];exact⟨I,.inl rfl⟩
 |n+1,(ws,h::rest),I=>by
  obtain⟨a,b⟩:=M0 hS I;obtain⟨c,d⟩:=Vm hS n _ a;refine⟨c,?_⟩;rcases d with d|d
  ·exact .inl d
  ·refine .inr ?_;show C6 (iter S n (Ez S (ws,h::rest))).1+(iter S n (Ez S (ws,h::rest))).2.length+(n+1)=C6 ws+(h::rest).length;omega
theorem Mx{S:List T4}{N p:Nat}(hS:InN N S)(hp:p<N)(hN:N<=60):∃ws,iter S 64 (Bz N p)=(ws,[])/\Nk S N p (ws,[]):=by
 obtain⟨a,b⟩:=Vm hS 64 (Bz N p) (binv0 hp);have:C6 (Bz N p).1+(Bz N p).2.length<=N+1:=by
  have:C6 (Bz N p).1<=(Bz N p).1.length:=List.countP_le_length;simp only[Bz,length_set,List.length_replicate,List.length_singleton] at this ⊢;exact Nat.succ_le_succ (by assumption)
 have e:(iter S 64 (Bz N p)).2=[]:=by
  rcases b with b|b
  ·exact b
  ·omega
 refine⟨(iter S 64 (Bz N p)).1,Prod.ext rfl e,?_⟩;have:iter S 64 (Bz N p)=((iter S 64 (Bz N p)).1,[]):=Prod.ext rfl e;rw[this] at a;exact a
theorem Qv{S:List T4}{N p:Nat}(hS:InN N S)(hp:p<N)(hN:N<=60):(Dq N S p).length=N:=by
 obtain⟨ws,e,I⟩:=Mx hS hp hN;rw[Kk e (le_refl _)];exact I.len
theorem Dy{S:List T4}{N p:Nat}(hS:InN N S)(hp:p<N)(hN:N<=60){v:Nat}{x:List Str}(h:Vis (Dq N S p) v x):Lead S p x v:=by
 obtain⟨ws,e,I⟩:=Mx hS hp hN;rw[Kk e (le_refl _)] at h;exact I.lead v x h
theorem Hf{S:List T4}{N p:Nat}(hS:InN N S)(hp:p<N)(hN:N<=60){v:Nat}{x:List Str}(h:Lead S p x v):∃y,Vis (Dq N S p) v y/\y.length<=x.length:=by
 obtain⟨ws,e,I⟩:=Mx hS hp hN;rw[Kk e (le_refl _)]
 induction h with
 |nil=>exact⟨[],I.p0,le_refl _⟩
 |snoc a b ih=>
  obtain⟨y,hy,hl⟩:=ih;rcases I.done _ _ hy with q|q
  ·cases q
  ·obtain⟨z,hz,hl2⟩:=q _ b;exact⟨z,hz,by simp only[Qa3,Qb4,Qe9] at hl2 ⊢;omega⟩
def Az(N:Nat)(S:List T4)(p:Nat):List Nat:=(List.range N).filter λv=>((Dq N S p)[v]?.join).isSome
def Reach(S:List T4)(a b:Nat):Prop:=∃ws,Lead S a ws b
theorem vis_iff{ws:Ws}{v:Nat}:(ws[v]?.join).isSome=true↔∃x,Vis ws v x:=by
 unfold Vis;cases ws[v]? with
 |none=>simp
 |some z=>cases z<;> simp
theorem Cp{S:List T4}{N p v:Nat}(hS:InN N S)(hp:p<N)(hN:N<=60):v∈Az N S p↔v<N/\Reach S p v:=by
 unfold Az;rw[mem_filter,mem_range,vis_iff];constructor
 ·rintro⟨a,x,hx⟩;exact⟨a,x,Dy hS hp hN hx⟩
 ·rintro⟨a,x,hx⟩;obtain⟨y,hy,_⟩:=Hf hS hp hN hx;exact⟨a,y,hy⟩
theorem Reach.refl{S:List T4}{a:Nat}:Reach S a a:=⟨[],.nil⟩
theorem V2{S:List T4}{a b:Nat}{n:Str}(h:(n,b)∈Bp S a):(n,a)∈Bp S b:=by
 obtain⟨t,ht,q⟩:=mem_flatMap.mp h;refine mem_flatMap.mpr ⟨t,ht,?_⟩;unfold nbT at q ⊢;rcases mem_append.mp q with q|q
 ·split at q
  ·rename_i e;have:=mem_singleton.mp q;cases this;refine mem_append_right _ ?_;rw[Qa2 rfl,e];exact mem_singleton.mpr rfl
  ·cases q
 ·split at q
  ·rename_i e;have:=mem_singleton.mp q;cases this;refine mem_append_left _ ?_;rw[Qa2 rfl,e];exact mem_singleton.mpr rfl
  ·cases q
theorem Reach.trans{S:List T4}{a b c:Nat}(h:Reach S a b)(g:Reach S b c):Reach S a c:=by
 obtain⟨x,hx⟩:=h;obtain⟨y,hy⟩:=g
 induction hy with
 |nil=>exact⟨x,hx⟩
 |snoc _ q ih=>obtain⟨z,hz⟩:=ih;exact⟨_,.snoc hz q⟩
theorem Reach.step{S:List T4}{a b:Nat}{n:Str}(h:(n,b)∈Bp S a):Reach S a b:=⟨[]++[n],.snoc .nil h⟩
theorem Reach.symm{S:List T4}{a b:Nat}(h:Reach S a b):Reach S b a:=by
 obtain⟨x,hx⟩:=h
 induction hx with
 |nil=>exact .refl
 |snoc _ q ih=>exact(Reach.step (V2 q)).trans ih
theorem Gf{S:List T4}{t:T4}(h:t∈S):(t.1,t.2.2.1)∈Bp S t.2.1:=mem_flatMap.mpr ⟨t,h,mem_append_left _ (by rw[Qa2 rfl];exact mem_singleton.mpr rfl)⟩
theorem Pt{S:List T4}{a b:Nat}{n:Str}(h:(n,b)∈Bp S a):∃t∈S,t.1=n/\((t.2.1=a/\t.2.2.1=b)\/(t.2.2.1=a/\t.2.1=b)):=by
 obtain⟨t,ht,q⟩:=mem_flatMap.mp h;refine⟨t,ht,?_⟩;unfold nbT at q;rcases mem_append.mp q with q|q
 ·split at q
  ·rename_i e;have:=mem_singleton.mp q;cases this;exact⟨rfl,.inl ⟨e,rfl⟩⟩
  ·cases q
 ·split at q
  ·rename_i e;have:=mem_singleton.mp q;cases this;exact⟨rfl,.inr ⟨e,rfl⟩⟩
  ·cases q
def relab(l:List Nat)(lo hi:Nat):List Nat:=l.map λx=>if x=hi then lo else x
def Jo(l:List Nat)(t:T4):List Nat:=relab l (min (l.getD t.2.1 0) (l.getD t.2.2.1 0)) (max (l.getD t.2.1 0) (l.getD t.2.2.1 0))
def Jc(N:Nat)(S:List T4):List Nat:=S.foldl Jo (List.range N)
theorem Ed(l:List Nat)(t:T4):(Jo l t).length=l.length:=by simp[Jo,relab]
theorem Xj{l:List Nat}{lo hi v:Nat}(hv:v<l.length):(relab l lo hi).getD v 0=if l.getD v 0=hi then lo else l.getD v 0:=by
 unfold relab;rw[Qb5,getElem?_map,getElem?_eq_getElem hv,Qb5,getElem?_eq_getElem hv];rfl
theorem Ec{l:List Nat}{t:T4}{v:Nat}(hv:v<l.length):(Jo l t).getD v 0=if l.getD v 0=max (l.getD t.2.1 0) (l.getD t.2.2.1 0) then min (l.getD t.2.1 0) (l.getD t.2.2.1 0) else l.getD v 0:=Xj hv
theorem Xf{u v:Nat}(S:List T4):∀l:List Nat,u<l.length->v<l.length->l.getD u 0=l.getD v 0->(S.foldl Jo l).getD u 0=(S.foldl Jo l).getD v 0:=by
 induction S with
 |nil=>intro l _ _ h;exact h
 |cons t S ih=>
  intro l hu hv h;rw[foldl_cons];exact ih _ (by rw[Ed];exact hu) (by rw[Ed];exact hv) (by rw[Ec hu,Ec hv,h])
theorem labs_tie{N:Nat}(S:List T4):∀l:List Nat,l.length=N->InN N S->∀t∈S,(S.foldl Jo l).getD t.2.1 0=(S.foldl Jo l).getD t.2.2.1 0:=by
 induction S with
 |nil=>intro l _ _ t h;cases h
 |cons t S ih=>
  intro l hl hN t' h;rw[foldl_cons];rcases Qa6.mp h with rfl|h
  ·have:=hN t' (Qa9 ..);refine Xf S _ (by rw[Ed];omega) (by rw[Ed];omega) ?_;rw[Ec (by omega),Ec (by omega)];split<;> split<;> omega
  ·exact ih _ (by rw[Ed];exact hl) (λx q=>hN x (Qa8 _ q)) t' h
theorem X6{S S':List T4}(h:∀t∈S,t∈S'){v:Nat}{nb:Str×Nat}(q:nb∈Bp S v):nb∈Bp S' v:=by
 obtain⟨t,ht,q⟩:=mem_flatMap.mp q;exact mem_flatMap.mpr ⟨t,h t ht,q⟩
theorem Reach.mono{S S':List T4}(h:∀t∈S,t∈S'){a b:Nat}(q:Reach S a b):Reach S' a b:=by
 obtain⟨x,hx⟩:=q
 induction hx with
 |nil=>exact .refl
 |snoc _ q ih=>exact ih.trans (.step (X6 h q))
theorem Uo{N:Nat}{S0:List T4}(S:List T4):∀l:List Nat,l.length=N->InN N S->(∀t∈S,t∈S0)->(∀u v,u<N->v<N->l.getD u 0=l.getD v 0->Reach S0 u v)->∀u v,u<N->v<N->(S.foldl Jo l).getD u 0=(S.foldl Jo l).getD v 0->Reach S0 u v:=by
 induction S with
 |nil=>intro l _ _ _ h;exact h
 |cons t S ih=>
  intro l hl hN hS h;rw[foldl_cons];refine ih _ (by rw[Ed];exact hl) (λx q=>hN x (Qa8 _ q)) (λx q=>hS x (Qa8 _ q)) ?_;intro u v hu hv e;have ht:=hN t (Qa9 ..);have tt:Reach S0 t.2.1 t.2.2.1:= .step (Gf (hS t (Qa9 ..)));rw[Ec (by omega),Ec (by omega)] at e;have q1:∀x,x<N->(l.getD x 0=max (l.getD t.2.1 0) (l.getD t.2.2.1 0)\/l.getD x 0=min (l.getD t.2.1 0) (l.getD t.2.2.1 0))->Reach S0 x t.2.1:=by
   intro x hx hm;have:l.getD x 0=l.getD t.2.1 0\/l.getD x 0=l.getD t.2.2.1 0:=by omega
   rcases this with q|q
   ·exact h x _ hx ht.1 q
   ·exact(h x _ hx ht.2 q).trans tt.symm
  split at e
  ·split at e
   ·exact(q1 u hu (.inl (by assumption))).trans (q1 v hv (.inl (by assumption))).symm
   ·exact(q1 u hu (.inl (by assumption))).trans (q1 v hv (.inr e.symm)).symm
  ·split at e
   ·exact(q1 u hu (.inr e)).trans (q1 v hv (.inl (by assumption))).symm
   ·exact h u v hu hv e
theorem Kp{N:Nat}{S:List T4}(hS:InN N S){u v:Nat}(hu:u<N)(hv:v<N):(Jc N S).getD u 0=(Jc N S).getD v 0↔Reach S u v:=by
 constructor
 ·refine Uo S (List.range N) (Qe0 ..) hS (λ_ h=>h) ?_ u v hu hv;intro a b ha hb e;rw[Qb5,getElem?_range ha,Qb5,getElem?_range hb] at e;have:a=b:=e;subst this;exact .refl
 ·rintro⟨x,hx⟩
  induction hx with
  |nil=>rfl
  | @snoc ws b c n a q ih=>
   have hb:b<N:=by
    cases a with
    |nil=>exact hu
    |snoc _ r=>exact Rm hS r
   have hc:c<N:=Rm hS q;refine(ih hb).trans ?_;obtain⟨t,ht,_,h⟩:=Pt q;have:=labs_tie S (List.range N) (Qe0 ..) hS t ht;rcases h with⟨rfl,rfl⟩|⟨rfl,rfl⟩
   ·exact this
   ·exact this.symm
theorem Sb{N p:Nat}{S:List T4}(hS:InN N S)(hp:p<N)(hN:N<=60):Az N S p=(List.range N).filter λv=>decide ((Jc N S).getD v 0=(Jc N S).getD p 0):=by
 refine filter_congr λv hv=> ?_;have hv:=mem_range.mp hv;rw[Bool.eq_iff_iff,Qa4,Kp hS hv hp];have:=Cp (v:=v) hS hp hN;unfold Az at this;rw[mem_filter,mem_range] at this;constructor
 ·intro h;exact(this.mp ⟨hv,h⟩).2.symm
 ·intro h;exact(this.mpr ⟨hv,h.symm⟩).2
end Wk
namespace L2
open PySem
theorem Rr{c:TT}{tb:TS}{D:Ey}{σ:St}{H:Hp}(Pv:Nat->St->Hp->Prop){m0:Nat}(h0:Pv m0 σ H)(hs:∀m σ H,Pv m σ H->c σ H λb H1=>if b=true then tb {D with nx:=λσ' H'=>∃m',m'<m/\Pv m' σ' H',ct:=λσ' H'=>∃m',m'<m/\Pv m' σ' H',bk:=D.nx} σ H1 else D.nx σ H1)(mono:∀σ H Q Q',(∀b H1,Q b H1->Q' b H1)->c σ H Q->c σ H Q'):Pe c tb D σ H:=by
 refine⟨Pv,⟨m0,h0⟩,λm σ H p=> ?_⟩;refine mono σ H _ _ (λb H1 q=> ?_) (hs m σ H p);cases b with
 |true=>exact⟨_,λ_ _ h=>h,q⟩
 |false=>exact q
theorem A8{H0 H:Hp}{a:Addr}{o:HO}(s:Same H0 H)(n:H0 a=none):Same H0 (upd H a o):=λb u e=>by
 rw[Ai (Al e n)];exact s b u e
theorem inV_ints(x:Int)(zs:List Int):inV (.int x) (zs.map V.int)=decide (x∈zs):=by
 unfold inV
 induction zs with
 |nil=>simp
 |cons z zs ih=>
  rw[Qb1,any_cons,ih];have:eqV (.int z) (.int x)=decide (x=z):=by
   show (z==x)=_;rw[Bool.eq_iff_iff,beq_iff_eq,Qa4];exact eq_comm
  rw[this,Bool.eq_iff_iff];simp
theorem Wq(ns:List Int):(ns.map V.int).all Ic=true:=by
 induction ns with
 |nil=>rfl
 |cons n ns ih=>rw[Qb1,all_cons,ih];rfl
theorem map_some{α β:Type}{f:α->β}{l:List α}{i:Nat}{x:β}(h:(l.map f)[i]? =some x):∃z,l[i]? =some z/\x=f z:=by
 rw[getElem?_map] at h;cases q:l[i]? with
 |none=>rw[q] at h;cases h
 |some z=>rw[q] at h;exact⟨z,rfl,(Option.some.inj h).symm⟩
theorem Kq{n j:Nat}(h:j<n):ixN n (j:Int)=some j:=by
 unfold ixN;rw[Qa2 (by exact Int.natCast_nonneg _),Qa2 (by omega)];simp
theorem Cc{α:Type}{l:List α}{i:Nat}(h:i<l.length):l[i]? =some l[i]:=getElem?_eq_getElem h
end L2
namespace Wk
open PySem L2
def Fj(t:T4):List V:=[.str t.1,.int (t.2.1:Int),.int (t.2.2.1:Int),.int t.2.2.2]
def TiesAt(H:Hp)(rs:List Addr)(S:List T4):Prop:=rs.length=S.length/\∀(i:Nat) r t,rs[i]? =some r->S[i]? =some t->H r=some (.tup (Fj t))
theorem TiesAt.same{H H':Hp}{rs:List Addr}{S:List T4}(h:TiesAt H rs S)(s:Same H H'):TiesAt H' rs S:=⟨h.1,λi r t a b=>s _ _ (h.2 i r t a b)⟩
theorem TiesAt.get{H:Hp}{rs:List Addr}{S:List T4}(h:TiesAt H rs S){i:Nat}{r:Addr}(hr:rs[i]? =some r):∃t,S[i]? =some t/\H r=some (.tup (Fj t)):=by
 have hi:i<S.length:=by rw[<-h.1];exact(List.getElem?_eq_some_iff.mp hr).1
 exact⟨S[i],Cc hi,h.2 i r _ hr (Cc hi)⟩
def PrsAt(H:Hp)(l:Addr)(ps:List (Str×Nat)):Prop:=∃rs:List Addr,H l=some (.lst (rs.map V.ref))/\rs.length=ps.length/\∀(i:Nat) r q,rs[i]? =some r->ps[i]? =some q->H r=some (.tup [.str q.1,.int (q.2:Int)])
theorem PrsAt.same{H H':Hp}{l:Addr}{ps:List (Str×Nat)}(h:PrsAt H l ps)(s:Same H H'):PrsAt H' l ps:=let ⟨rs,a,b,c⟩:=h;⟨rs,s _ _ a,b,λi r q e f=>s _ _ (c i r q e f)⟩
def BesAt(H:Hp)(b:Addr)(N:Nat)(f:Nat->List (Str×Nat)):Prop:=∃ls:List Addr,H b=some (.lst (ls.map V.ref))/\ls.length=N/\∀(v:Nat) l,ls[v]? =some l->PrsAt H l (f v)
theorem BesAt.same{H H':Hp}{b:Addr}{N:Nat}{f:Nat->List (Str×Nat)}(h:BesAt H b N f)(s:Same H H'):BesAt H' b N f:=let ⟨ls,x,y,z⟩:=h;⟨ls,s _ _ x,y,λv l e=>(z v l e).same s⟩
structure Bes(H0 H:Hp)(b:Addr)(ls:List Addr)(N:Nat)(f:Nat->List (Str×Nat)):Prop where
 same:Same H0 H
 hb:H b=some (.lst (ls.map V.ref))
 len:ls.length=N
 nd:ls.Nodup
 new:∀l∈ls,H0 l=none/\l≠b
 prs:∀(v:Nat) l,ls[v]? =some l->PrsAt H l (f v)
theorem nd_ix{ls:List Addr}(h:ls.Nodup){i j:Nat}{l:Addr}(a:ls[i]? =some l)(b:ls[j]? =some l):i=j:=by
 have hi:=(List.getElem?_eq_some_iff.mp a).1;exact(List.getElem?_inj hi h).mp (by rw[a,b])
theorem Bes.app{H0 H:Hp}{b:Addr}{ls:List Addr}{N v:Nat}{f:Nat->List (Str×Nat)}{l p:Addr}{xs:List V}{n:Str}{u:Nat}(B:Bes H0 H b ls N f)(hv:ls[v]? =some l)(hp:H p=none)(hl:H l=some (.lst xs)):
  Bes H0 (upd (upd H p (.tup [.str n,.int (u:Int)])) l (.lst (xs++[.ref p]))) b ls N (λx=>if x=v then f v++[(n,u)] else f x):=by
 have lm:l∈ls:=mem_of_getElem? hv;have s1:=Ac (o:= .tup [.str n,.int (u:Int)]) hp;have lp:l≠p:=Al hl hp;refine⟨A8 (B.same.trans s1) (B.new l lm).1,by rw[Ai (B.new l lm).2.symm];exact s1 _ _ B.hb,B.len,B.nd,B.new,λx k hx=> ?_⟩;obtain⟨rs,h1,h2,h3⟩:=B.prs x k hx;have tl:∀(r:Addr) ys,H r=some (.tup ys)->upd (upd H p (.tup [.str n,.int (u:Int)])) l (.lst (xs++[.ref p])) r=some (.tup ys):=λr ys e=>by
  rw[Ai (Ar e hl (by intro z;cases z))];exact s1 _ _ e
 by_cases e:x=v
 ·subst e;rw[hv] at hx;cases hx;rw[hl] at h1;injection h1 with h1;injection h1 with h1;simp only[Qe7];refine⟨rs++[p],by rw[Ab,h1,map_append];rfl,by simp[h2],λi r q hr hq=> ?_⟩;rw[getElem?_append] at hr hq;by_cases hi:i<rs.length
  ·rw[Qa2 hi] at hr;rw[Qa2 (by omega)] at hq;exact tl _ _ (h3 i r q hr hq)
  ·rw[Qa1 hi] at hr;rw[Qa1 (by omega),<-h2] at hq;have:i - rs.length=0:=by
    have:=(List.getElem?_eq_some_iff.mp hr).1;simp at this;assumption
   rw[this] at hr hq;cases hr;cases hq;rw[Ai lp.symm];exact Ab
 ·simp only[Qa1 e];have kl:k≠l:=λq=>by subst q;exact e (nd_ix B.nd hx hv)
  exact⟨rs,by rw[Ai kl];exact s1 _ _ h1,h2,λi r q hr hq=>tl _ _ (h3 i r q hr hq)⟩
theorem Xw(S:List T4)(t:T4)(v:Nat):Bp (S++[t]) v=Bp S v++nbT v t:=by unfold Bp;rw[flatMap_append];simp
theorem nb_two(S:List T4)(t:T4):(λx=>if x=t.2.2.1 then (λx=>if x=t.2.1 then Bp S t.2.1++[(t.1,t.2.2.1)] else Bp S x) t.2.2.1++[(t.1,t.2.1)] else (λx=>if x=t.2.1 then Bp S t.2.1++[(t.1,t.2.2.1)] else Bp S x) x)=Bp (S++[t]):=by
 funext x
 rw[Xw];unfold nbT;by_cases a:t.2.1=x
 ·subst a;rw[Qa2 rfl];by_cases b:t.2.2.1=t.2.1
  ·rw[Qa2 b,Qa2 b.symm];dsimp only;rw[Qa2 b];simp
  ·rw[Qa1 b,Qa1 (Ne.symm b)];dsimp only;rw[Qa2 rfl];simp
 ·rw[Qa1 a];by_cases b:t.2.2.1=x
  ·subst b;rw[Qa2 rfl,Qa2 rfl];dsimp only;rw[Qa1 (Ne.symm a)];simp
  ·rw[Qa1 b,Qa1 (Ne.symm b)];dsimp only;rw[Qa1 (Ne.symm a)];simp
theorem R6(S:List T4)(v:Nat):(Bp S v).length<=2 * S.length:=by
 unfold Bp
 induction S with
 |nil=>simp
 |cons t S ih=>
  rw[Qb7,Qa3,Qb4];have:(nbT v t).length<=2:=by unfold nbT;rw[Qa3];split<;> split<;> simp
  omega
def WayV(H:Hp)(x:V):Option (List Str)->Prop
 |none=>x= .non
 |some w=>∃r,x= .ref r/\H r=some (.tup (w.map V.str))
def WaysAt(H:Hp)(a:Addr)(ws:Ws):Prop:=∃xs,H a=some (.lst xs)/\xs.length=ws.length/\∀(i:Nat) x o,xs[i]? =some x->ws[i]? =some o->WayV H x o
theorem WayV.mono{H H':Hp}{x:V}{o:Option (List Str)}(f:∀r ys,H r=some (.tup ys)->H' r=some (.tup ys))(h:WayV H x o):WayV H' x o:=by
 cases o with
 |none=>exact h
 |some w=>obtain⟨r,a,b⟩:=h;exact⟨r,a,f _ _ b⟩
theorem WaysAt.same{H H':Hp}{a:Addr}{ws:Ws}(h:WaysAt H a ws)(s:Same H H'):WaysAt H' a ws:=let ⟨xs,x,y,z⟩:=h;⟨xs,s _ _ x,y,λi u o e f=>(z i u o e f).mono λr ys=>s r (.tup ys)⟩
theorem WaysAt.keep{H:Hp}{a l:Addr}{ws:Ws}{ys zs:List V}(h:WaysAt H a ws)(hl:H l=some (.lst ys))(n:a≠l):WaysAt (upd H l (.lst zs)) a ws:=by
 obtain⟨xs,x,y,z⟩:=h;exact⟨xs,by rw[Ai n];exact x,y,λi u o e f=>(z i u o e f).mono λr ys e=>by rw[Ai (Ar e hl (by intro z;cases z))];exact e⟩
theorem WaysAt.get{H:Hp}{a:Addr}{ws:Ws}(h:WaysAt H a ws){v:Nat}{o:Option (List Str)}(hv:ws[v]? =some o):∃xs x,H a=some (.lst xs)/\xs[v]? =some x/\xs.length=ws.length/\WayV H x o:=by
 obtain⟨xs,x,y,z⟩:=h;have hl:v<xs.length:=by rw[y];exact(List.getElem?_eq_some_iff.mp hv).1
 exact⟨xs,xs[v],x,Cc hl,y,z v _ o (Cc hl) hv⟩
theorem WaysAt.set{H:Hp}{a r:Addr}{ws:Ws}{xs:List V}{u:Nat}{w:List Str}(h:WaysAt H a ws)(ha:H a=some (.lst xs))(hr:H r=some (.tup (w.map V.str))):WaysAt (upd H a (.lst (xs.set u (.ref r)))) a (ws.set u (some w)):=by
 obtain⟨xs',x,y,z⟩:=h;rw[ha] at x;injection x with x;injection x with x;subst x;have tl:∀(q:Addr) ys,H q=some (.tup ys)->upd H a (.lst (xs.set u (.ref r))) q=some (.tup ys):=λq ys e=>by
  rw[Ai (Ar e ha (by intro z;cases z))];exact e
 refine⟨_,Ab,by simp[y],λi x o hx ho=> ?_⟩;rw[List.getElem?_set] at hx ho;by_cases e:u=i
 ·rw[Qa2 e] at hx ho;split at hx
  ·rw[Qa2 (by omega)] at ho;cases hx;cases ho;exact⟨r,rfl,tl _ _ hr⟩
  ·cases hx
 ·rw[Qa1 e] at hx ho;exact(z i x o hx ho).mono tl
def vis1(w:List Str)(q:Str×Nat)(st:Ws×List Nat):Ws×List Nat:=if st.1[q.2]? =some none then (st.1.set q.2 (some (w++[q.1])),st.2++[q.2]) else st
theorem vis1_no{w:List Str}{q:Str×Nat}{st:Ws×List Nat}(h:¬st.1[q.2]? =some none):vis1 w q st=st:=Qa1 h
theorem Zx{w:List Str}{q:Str×Nat}{st:Ws×List Nat}(h:st.1[q.2]? =some none):vis1 w q st=(st.1.set q.2 (some (w++[q.1])),st.2++[q.2]):=Qa2 h
theorem Hu(w:List Str)(q:Str×Nat):∀(L:List (Str×Nat)) (st:Ws×List Nat),Bv w (L++[q]) st=vis1 w q (Bv w L st)
 |[],st=>by unfold vis1;show Bv w (q::[]) st=_;unfold Bv;rfl
 |(n,u)::r,st=>by
  show Bv w ((n,u)::(r++[q])) st=_;unfold Bv;split
  ·exact Hu w q r _
  ·exact Hu w q r _
theorem Jv(w:List Str):∀(L:List (Str×Nat)) (st:Ws×List Nat) {v:Nat} {x:List Str},Vis st.1 v x->Vis (Bv w L st).1 v x
 |[],_,_,_,h=>h
 |(n,u)::r,st,v,x,h=>by
  unfold Bv;split
  ·rename_i e;exact Jv w r _ ((Bl e).mpr (.inr h))
  ·exact Jv w r _ h
theorem Jy(w:List Str):∀(L:List (Str×Nat)) (st:Ws×List Nat),(Bv w L st).1.length=st.1.length/\(Bv w L st).2.length<=st.2.length+L.length
 |[],st=>⟨rfl,le_refl _⟩
 |(n,u)::r,st=>by
  unfold Bv;split
  ·obtain⟨a,b⟩:=Jy w r (st.1.set u (some (w++[n])),st.2++[u]);refine⟨by rw[a];simp,?_⟩;simp only[Qa3,Qb4,Qe9] at b ⊢;omega
  ·obtain⟨a,b⟩:=Jy w r st;exact⟨a,by rw[Qb4];exact Nat.le_succ_of_le (by assumption)⟩
theorem J9{S:List T4}{N p h i:Nat}{ws:Ws}{rest:List Nat}(hS:InN N S)(I:Nk S N p (ws,h::rest))(hl:∀v x,Wk.Vis ws v x->x.length<=i):∀v x,Wk.Vis (Ez S (ws,h::rest)).1 v x->x.length<=i+1:=by
 obtain⟨w,hw,J⟩:=O7 I;have e:Ez S (ws,h::rest)=Bv w (Bp S h) (ws,rest):=by
  show Bv ((ws[h]?.join).getD []) (Bp S h) (ws,rest)=_;unfold Wk.Vis at hw;rw[hw];rfl
 rw[e];obtain⟨a,_⟩:=Iy (Bp S h) (ws,rest) J λnb q=>⟨q,Rm hS q⟩
 intro v x q;have:=a.ht v x q;have:=hl h w hw;omega
theorem Sg{xs ys:List Addr}(h:xs.map V.ref=ys.map V.ref):xs=ys:=(List.map_inj_right (λ_ _ h=>by injection h)).mp h
end Wk
namespace L2
open PySem
section
variable{g:TG}{tb:TS}{D:Ey}{σ:St}{H:Hp}
theorem Rh{K:Frag}{a:Addr}{xs:List V}(Pv:Nat->St->Hp->Prop)(h0:Pv 0 σ H)(hl:∀i σ H,i<=xs.length->Pv i σ H->SqT K H a xs)(hs:∀i x σ H,xs[i]? =some x->Pv i σ H->let E:Ey:={D with nx:=Pv (i+1),ct:=Pv (i+1),bk:=D.nx};g x σ H λσ2 H2=>tb E σ2 H2)(hd:∀σ H,Pv xs.length σ H->D.nx σ H):
  ∃W:Nat->Nat->St->Hp->Prop,(∃m,W 0 m σ H)/\∀i m σ H,W i m σ H->
   ((Itt K a).stop i H/\D.nx σ H)\/((Itt K a).go i H/\∃N:St->Hp->Prop,(∀σ' H',N σ' H'->∃m',m'<m/\W (i+1) m' σ' H')/\∀x H',(Itt K a).yld i H x H'->g x σ H' λσ2 H2=>tb {D with nx:=N,ct:=N,bk:=D.nx} σ2 H2):=
 Jd Pv h0 hl hs hd
theorem Xd{c:TT}(Pv:Nat->St->Hp->Prop){m0:Nat}(h0:Pv m0 σ H)(hs:∀m σ H,Pv m σ H->let E:Ey:={D with nx:=λσ' H'=>∃m',m'<m/\Pv m' σ' H',ct:=λσ' H'=>∃m',m'<m/\Pv m' σ' H',bk:=D.nx};c σ H λb H1=>if b=true then tb E σ H1 else D.nx σ H1)(mono:∀σ H Q Q',(∀b H1,Q b H1->Q' b H1)->c σ H Q->c σ H Q'):Pe c tb D σ H:=
 Rr Pv h0 hs mono
end
end L2
namespace Wk
open PySem L2
abbrev LS:Str:=Str.ofString "abcdefghijklmnopqrstuvwxyz"
theorem LS_eq:LS.cps.toList=(List.range 26).map (97+·):=by decide+kernel
theorem V4{v:Int}(h0:0<=v)(h1:v<26):atI LS.cps.toList v=some (97+v.toNat):=by
 obtain⟨j,rfl⟩:∃j:Nat,v=(j:Int):=⟨v.toNat,by omega⟩
 have hj:j<26:=by omega
 refine Am ?_;rw[LS_eq,getElem?_map,getElem?_range hj];rfl
theorem Jb(x y:Str):(x++y).cps.toList=x.cps.toList++y.cps.toList:=by
 show (x.cps++y.cps).toList=_;rw[Array.toList_append]
theorem join_cps:∀ws:List Nat,(Txt.join (Str.ofString "") (ws.map λc=>(⟨#[c]⟩:Str))).cps.toList=ws:=by
 have key:∀ws:List Nat,(Str.join (Str.ofString "") (ws.map λc=>(⟨#[c]⟩:Str))).cps.toList=ws:=by
  intro ws
  induction ws with
  |nil=>rfl
  |cons c ws ih=>
   cases ws with
   |nil=>rfl
   |cons d ws=>
    simp only[Qb1] at ih ⊢;rw[Str.join,Jb,Jb,ih]
    ·rfl
    ·intro q;cases q
 intro ws;show (Builtin.Str.glued _ _).cps.toList=_;rw[StrLaws.glued_eq_join];exact key ws
theorem Jz{xs:List V}{n:Nat}(h:n<=xs.length):Ee xs none (some (n:Int))=xs.take n:=by
 unfold Ee;rw[HT.sIx_none,HT.sIx_nat,drop_zero,min_eq_left h,Nat.sub_zero]
theorem Og{xs:List V}{n:Nat}:Ee xs (some (n:Int)) none=xs.drop n:=by
 unfold Ee;rw[HT.sIx_none,HT.sIx_nat];by_cases h:n<=xs.length
 ·rw[min_eq_left h,Qc6 (by rw[length_drop];exact le_refl _)]
 ·rw[Nat.min_eq_right (by omega),List.drop_of_length_le (by exact le_refl _),List.drop_of_length_le (by omega)];simp
theorem Gk{v:Int}(h0:0<=v):∃j:Nat,v=(j:Int):=⟨v.toNat,by omega⟩
abbrev Ps:=List (T4×Addr)
def psK(ps:Ps):List (Key×V):=ps.map λp=>(Sum.inr p.1.1,V.ref p.2)
def Su(N:Nat)(t:T4):Prop:=t.2.1<N/\t.2.2.1<N/\t.2.1≠t.2.2.1
theorem val_none{ps:Ps}{n:Str}(h:n ∉ ps.map (·.1.1)):Bj (psK ps) (Sum.inr n)=none:=by
 unfold psK
 induction ps with
 |nil=>rfl
 |cons p ps ih=>
  rw[Qb1,Qa6,not_or] at h;rw[Qb1,B9 (by intro e;exact h.1 (by injection e with e;exact e.symm))];exact ih h.2
theorem val_has{ps:Ps}{n:Str}:(Bj (psK ps) (Sum.inr n)).isSome=decide (n∈ps.map (·.1.1)):=by
 unfold psK
 induction ps with
 |nil=>rfl
 |cons q ps ih=>
  rw[Qb1,Qb1];by_cases e:q.1.1=n
  ·rw[Ci (by rw[e])];simp[e]
  ·rw[B9 (by intro h;injection h with h;exact e h),ih];rw[Bool.eq_iff_iff];simp[Ne.symm e]
theorem psK_put{ps:Ps}{t:T4}{r:Addr}(h:t.1 ∉ ps.map (·.1.1)):Bw (psK ps) (Sum.inr t.1) (.ref r)=psK (ps++[(t,r)]):=by
 rw[Ld _ (val_none h)];unfold psK;rw[map_append];rfl
theorem Rg{α:Type}[DecidableEq α]:∀(xs ys:List α),xs.Nodup->(∀x∈xs,x∈ys)->xs.length<=ys.length
 |[],_,_,_=>Qc5 _
 |x::xs,ys,nd,h=>by
  have nd:=Qd3.mp nd;have hx:=h x (Qa9 ..);have:=Rg xs (ys.erase x) nd.2 λy hy=>(List.mem_erase_of_ne (λe=>nd.1 (by rw[<-e];exact hy))).mpr (h y (Qa8 _ hy));rw[List.length_erase_of_mem hx] at this;have:=Qg3 hx;rw[Qb4];omega
theorem Y9{N a v:Nat}(ha:a<N)(hv:v<N - 1):(a+1+v) % N≠a/\(a+1+v) % N<N:=by
 refine⟨?_,mod_lt _ (by omega)⟩;by_cases h:a+1+v<N
 ·rw[Nat.mod_eq_of_lt h];omega
 ·rw[Nat.mod_eq_sub_mod (by exact not_lt.mp (by assumption)),Nat.mod_eq_of_lt (by omega)];omega
theorem mod_ne1{N a:Nat}(ha:a<N)(hN:2<=N):(a+1) % N≠a/\(a+1) % N<N:=by
 have:=Y9 (v:=0) ha (by omega);simpa using this
theorem Ks{a b:Nat}:((a:Int) % (b:Int))=((a % b:Nat):Int):=by simp
end Wk
namespace L2
open PySem
section
variable{X:Cx}{pos:Pos}{e a b:Expr}{te ta tb:TE}{es:List Expr}{t u:TS}{st:Stmt}{rest:List Stmt}
theorem PE.imp'{t t':TE}(h:PE X e t)(f:∀σ H Q,t' σ H Q->t σ H Q):PE X e t':=λpins s σ H Q I h'=>h pins s σ H Q I (f σ H Q h')
end
end L2
namespace Wk
open PySem L2
def Et(t:T4):List Key:=[.inr t.1,.inl (t.2.1:Int),.inl (t.2.2.1:Int),.inl t.2.2.2]
def Ls:List Key->T4
 |[.inr n,.inl a,.inl b,.inl w]=>(n,a.toNat,b.toNat,w)
 |_=>(Str.ofString "",0,0,0)
theorem Hx(t:T4):Ls (Et t)=t:=by
 obtain⟨n,a,b,w⟩:=t;show (n,(a:Int).toNat,(b:Int).toNat,w)=_;simp
theorem X5(t:T4):(Et t).map kV=Fj t:=rfl
def IsTie(ks:List Key):Prop:=∃t,ks=Et t
def NmS(zs:List Str):Prop:=zs.Pairwise λa b=>Srt.ltK (.inr b) (.inr a)=false
inductive Dd where
 |come (m:Int) (t:T4)
 |go (m:Int) (n:Str)
def Dd.vs:Dd->List V
 | .come m t=> .str (Str.ofString "come"):: .int m::Fj t
 | .go m n=>[.str (Str.ofString "go"),.int m,.str n]
def Dd.mo:Dd->Int
 | .come m _=>m
 | .go m _=>m
def Yy(S:List T4):Dd->List T4
 | .come _ t=>S++[t]
 | .go _ n=>S.filter λt=>decide (t.1≠n)
def thr(ds:List Dd):List T4:=ds.foldl Yy []
theorem C9(ds:List Dd)(d:Dd):thr (ds++[d])=Yy (thr ds) d:=by unfold thr;rw[List.foldl_append];rfl
def DdOk(N:Nat)(S:List T4):Dd->Prop
 | .come _ t=>t.1 ∉ S.map (·.1)/\Su N t
 | .go _ n=>n∈S.map (·.1)
structure Db(N:Nat)(ds:List Dd):Prop where
 ok:∀(i:Nat) d,ds[i]? =some d->DdOk N (thr (ds.take i)) d
 len:ds.length<=60
 mo:∀d∈ds,0<=d.mo/\d.mo<=1000000000
 up:ds.Pairwise λa b=>a.mo<=b.mo
 wt:∀(m:Int) t,Dd.come m t∈ds->0<=t.2.2.2/\t.2.2.2<=1000000000
theorem Bu{α:Type}{l:List α}{i:Nat}{d:α}(h:l[i]? =some d):l.take (i+1)=l.take i++[d]:=by rw[Qb2,h];rfl
structure ThrOk(N:Nat)(S:List T4):Prop where
 nd:(S.map (·.1)).Nodup
 ok:∀t∈S,Su N t
theorem Ho(n:Str)(S:List T4):(S.filter λt=>decide (t.1≠n)).map (·.1)=(S.map (·.1)).filter λm=>decide (m≠n):=by rw[List.filter_map];rfl
theorem step_ok{N:Nat}{S:List T4}{d:Dd}(h:ThrOk N S)(g:DdOk N S d):ThrOk N (Yy S d):=by
 cases d with
 |come m t=>
  refine⟨?_,λu hu=> ?_⟩
  ·show ((S++[t]).map (·.1)).Nodup;rw[map_append];refine nodup_append.mpr ⟨h.nd,Qd3.mpr ⟨by simp,nodup_nil⟩,λx hx y hy=> ?_⟩;have e:=mem_singleton.mp hy;intro q;exact g.1 (by have e:y=t.1:=e;rw[<-e,<-q];exact hx)
  ·rcases mem_append.mp hu with q|q
   ·exact h.ok u q
   ·rw[mem_singleton.mp q];exact g.2
 |go m n=>
  refine⟨?_,λu hu=>h.ok u (mem_filter.mp hu).1⟩;show ((S.filter λt=>decide (t.1≠n)).map (·.1)).Nodup;rw[Ho];exact h.nd.sublist Qg8
theorem Lp{N:Nat}{ds:List Dd}(h:Db N ds):∀i,i<=ds.length->ThrOk N (thr (ds.take i))
 |0,_=>⟨nodup_nil,by simp[thr]⟩
 |i+1,hi=>by
  have e:=Cc (l:=ds) (i:=i) (by assumption);rw[Bu e,C9];exact step_ok (Lp h i (by exact le_of_lt (by assumption))) (h.ok i _ e)
theorem Gx(ds:List Dd):∀i,(thr (ds.take i)).length<=i
 |0=>by simp[thr]
 |i+1=>by
  cases e:ds[i]? with
  |none=>
   have:ds.length<=i:=by
    rcases lt_or_ge i ds.length with h|h
    ·rw[Cc h] at e;cases e
    ·exact h
   have:=Gx ds i;rw[Qc6 (by omega)] at this ⊢;exact Nat.le_succ_of_le (by assumption)
  |some d=>
   rw[Bu e,C9];have:=Gx ds i;cases d with
   |come m t=>show (_++[t]).length<=_;simp;assumption
   |go m n=>exact le_trans (Qd1 _ _) (by exact Nat.le_succ_of_le (by assumption))
def Srtd(S T:List T4):Prop:=S.Perm T/\S.Pairwise λa b=>Srt.ltR (Et b) (Et a)=false
def DdsAt(H:Hp)(rs:List Addr)(ds:List Dd):Prop:=rs.length=ds.length/\∀(i:Nat) r d,rs[i]? =some r->ds[i]? =some d->H r=some (.tup d.vs)
theorem DdsAt.mono{H H':Hp}{rs:List Addr}{ds:List Dd}(h:DdsAt H rs ds)(f:∀r xs,H r=some (.tup xs)->H' r=some (.tup xs)):DdsAt H' rs ds:=⟨h.1,λi r d a b=>f _ _ (h.2 i r d a b)⟩
theorem DdsAt.get{H:Hp}{rs:List Addr}{ds:List Dd}(h:DdsAt H rs ds){i:Nat}{r:Addr}(hr:rs[i]? =some r):∃d,ds[i]? =some d/\H r=some (.tup d.vs):=by
 have hi:i<ds.length:=by rw[<-h.1];exact(List.getElem?_eq_some_iff.mp hr).1
 exact⟨ds[i],Cc hi,h.2 i r _ hr (Cc hi)⟩
theorem DdsAt.take{H:Hp}{rs:List Addr}{ds:List Dd}(h:DdsAt H rs ds)(n:Nat):DdsAt H (rs.take n) (ds.take n):=by
 refine⟨by rw[Qb0,Qb0,h.1],λi r d a b=> ?_⟩;have hi:i<n:=by have:=(List.getElem?_eq_some_iff.mp a).1;rw[Qb0] at this;omega
 rw[List.getElem?_take_of_lt hi] at a b;exact h.2 i r d a b
def HistAt(H:Hp)(h:Addr)(N:Nat)(ds:List Dd):Prop:=∃(tp:Addr) (rs:List Addr),H h=some (.tup [.int (N:Int),.ref tp])/\H tp=some (.tup (rs.map V.ref))/\DdsAt H rs ds
theorem HistAt.mono{H H':Hp}{h:Addr}{N:Nat}{ds:List Dd}(x:HistAt H h N ds)(f:∀r xs,H r=some (.tup xs)->H' r=some (.tup xs)):HistAt H' h N ds:=let ⟨tp,rs,a,b,c⟩:=x;⟨tp,rs,f _ _ a,f _ _ b,c.mono f⟩
theorem HistAt.same{H H':Hp}{h:Addr}{N:Nat}{ds:List Dd}(x:HistAt H h N ds)(s:Same H H'):HistAt H' h N ds:=x.mono λr xs=>s r (.tup xs)
inductive Vi(K:Frag)(i j:Nat)(σ:St)(H:Hp)(Q:VK):Prop
 |mk (h tp:Addr) (x:V) (n:Nat) (xs:List V):(σ[i]? =some (some (.ref h)))->(σ[j]? =some (some (.int (n:Int))))->(H h=some (.tup [x,.ref tp]))->(H tp=some (.tup xs))->(n<=xs.length)->(∀c H',Same H H'->H' c=some (.tup (xs.take n))->Q (.ref c) H')->Vi K i j σ H Q
def tTakeH(K:Frag)(i j:Nat):TE:=λσ H Q=>Vi K i j σ H Q
theorem takeH_ok{K:Frag}{i j:Nat}:∀σ H Q,tTakeH K i j σ H Q->tSl (Lo K) (tOp (Hr K) (tVar i) (tC (.int 1))) Pb (tPart (tVar j)) σ H Q:=by
 rintro σ H Q ⟨h,tp,x,n,xs,ei,ej,hh,ht,hn,k⟩;refine⟨_,ei,h,_,1,_,rfl,rfl,SqT.of hh,Am (j:=1) rfl,_,ej,_,rfl,tp,xs,rfl,SqT.of ht,λw=> ?_,λ_ p hp=> ?_⟩
 ·have:=w.2;rw[HT.sIx_nat,min_eq_left hn] at this;exact k tp H (Cw _) (by rw[this,Qb8];exact ht)
 ·rw[Jz hn];exact k p _ (Ac hp) Ab
def ThF(H:Hp)(th:Addr)(ps:Ps):Prop:=H th=some (.dK (psK ps))/\∀p∈ps,H p.2=some (.tup (Fj p.1))
theorem Rs(n:Str):∀ps:Ps,Em (psK ps) (.inr n:Key)=psK (ps.filter λp=>decide (p.1.1≠n))
 |[]=>rfl
 |p::ps=>by
  have ih:=Rs n ps;unfold Em psK at ih ⊢;rw[Qb1,filter_cons,filter_cons];by_cases z:p.1.1=n
  ·rw[Qa1 (by simp[z]),Qa1 (by simp[z])];exact ih
  ·rw[Qa2 (by simp[z]),Qa2 (by simp[z]),Qb1,ih]
theorem Ql(ps:Ps):(ps.map (·.1)).map (·.1)=ps.map (·.1.1):=by rw[map_map];rfl
theorem ps_filt(n:Str)(ps:Ps):(ps.filter λp=>decide (p.1.1≠n)).map (·.1)=(ps.map (·.1)).filter λt=>decide (t.1≠n):=by rw[List.filter_map];rfl
theorem Lk{S:List T4}{N p:Nat}(hS:InN N S):∀(n:Nat) (st:Ws×List Nat) (i:Nat),Nk S N p st->(∀v x,Wk.Vis st.1 v x->x.length<=i)->∀v x,Wk.Vis (iter S n st).1 v x->x.length<=i+(C6 st.1+st.2.length)
 |0,st,i,_,h=>λv x q=>by have:=h v x q;omega
 |n+1,(ws,[]),i,_,h=>λv x q=>by
  rw[Ix (n+1)] at q;have:=h v x q;omega
 |n+1,(ws,h'::rest),i,I,h=>λv x q=>by
  obtain⟨a,b⟩:=M0 hS I;have:=Lk hS n _ (i+1) a (J9 hS I h) v x q;have e:C6 (ws,h'::rest).1+(ws,h'::rest).2.length=C6 ws+(h'::rest).length:=rfl;omega
theorem Uw{N p:Nat}(hp:p<N):C6 (Bz N p).1+1=N:=by
 unfold C6 Bz;have hl:p<(replicate N (none:Option (List Str))).length:=by simpa using hp
 have hg:(replicate N (none:Option (List Str)))[p]=none:=by simp
 rw[List.countP_set (h:=hl),hg];have:(replicate N (none:Option (List Str))).countP (·==none)=N:=by simp[List.countP_replicate]
 rw[this];simp only[beq_self_eq_true,Qe7];show N - 1+0+1=N;omega
theorem Sz{S:List T4}{N p:Nat}(hS:InN N S)(hp:p<N){v:Nat}{x:List Str}(h:Wk.Vis (Dq N S p) v x):x.length<=N:=by
 have:=Lk hS 64 (Bz N p) 0 (binv0 hp) (λv x q=>by rw[N0 hp q];simp) v x h;have:=Uw hp;have e:(Bz N p).2.length=1:=rfl;omega
theorem part_up{N p:Nat}{S:List T4}:(Az N S p).Pairwise (·<·):=by
 unfold Az;exact(Qf5).sublist Qg8
end Wk
namespace HT
open PySem PyProof.Rows
theorem Nb{f g:Nat->Option Value}:∀{l:List Nat},(∀k∈l,f k=g k)->l.filterMap f=l.filterMap g
 |[],_=>rfl
 |a::l,h=>by
  rw[Qg4,Qg4,h a (Qa9),Nb (l:=l) λk hk=>h k (Qa8 _ hk)]
theorem Z6(xs:Array Value):((List.range xs.size).filterMap λ(k:Nat)=>xs[(((xs.size:Int) - 1)+(k:Int) * (-1)).toNat]?)=xs.toList.reverse:=by
 have h:((List.range xs.size).filterMap λ(k:Nat)=>xs[(((xs.size:Int) - 1)+(k:Int) * (-1)).toNat]?)=(List.range xs.size).filterMap λk=>xs.toList.reverse[k]? :=by
  refine Nb λk hk=> ?_;have hk:=mem_range.mp hk;have e:(((xs.size:Int) - 1)+(k:Int) * (-1)).toNat=xs.size - 1 - k:=by omega
  rw[e,List.getElem?_reverse (by simpa using hk)];simp
 rw[h];have:∀(l:List Value),(List.range l.length).filterMap (λk=>l[k]?)=l:=by
  intro l;refine ext_getElem? λi=> ?_;have e:(List.range l.length).filterMap (λk=>l[k]?)=(List.range l.length).map (λk=>l.getD k .none):=by
   rw[<-List.filterMap_eq_map];refine Nb λk hk=> ?_;have hk:=mem_range.mp hk;show l[k]? =some (l.getD k .none);rw[Qb5,getElem?_eq_getElem hk];rfl
  rw[e,getElem?_map];by_cases hi:i<l.length
  ·rw[getElem?_range hi,getElem?_eq_getElem hi];simp[hi]
  ·rw[getElem?_eq_none (by simpa using hi),getElem?_eq_none (by simpa using hi)];rfl
 have:=this xs.toList.reverse;rw[length_reverse,length_toList] at this;exact this
section
variable{prog:Program}{w:World}{A:Around}{E:Value->Shared->Prop}{s:Shared}
theorem R0{sl:Addr}{u:Tok}{n:Nat}{Q:Int×Int×Nat->Shared->Prop}(hs:s.heap.IsSliceOf sl .none .none (.int (-1) u))(h:Q ((n:Int) - 1,-1,n) s):wpAny (model prog w) A (Builtin.Slice.sliceApplied (.ref sl) (pure (n:Int))) Q E s:=by
 obtain⟨os,hos,hcs,hds⟩:=id hs;unfold Builtin.Slice.sliceApplied Builtin.Slice.sliceFields;refine Gt (Gt (Qb6 hos hds (x:= .none) rfl (Gt (Qb6 hos hds (x:= .none) rfl (Gt (Qb6 hos hds (x:= .int (-1) u) rfl (Qa0 ?_)))))));refine Gt (slicePart_int ?_);show wpAny _ _ (if ((-1:Int)==0)=true then _ else _) _ _ s;rw[Qa1 (by decide)];refine Gt (slicePart_none (Gt (slicePart_none (Gt (Qa0 (Qa0 ?_))))));have e:Builtin.Slice.slicePlaces ((n:Int) - 1) (-1) (-1)=n:=by
  unfold Builtin.Slice.slicePlaces;rw[Qa1 (by decide)];split
  ·rw[show (-(-1):Int)=1 from rfl,Int.ediv_one];omega
  ·omega
 show Q ((n:Int) - 1,-1,Builtin.Slice.slicePlaces ((n:Int) - 1) (-1) (-1)) s;rw[e];exact h
theorem getItem_tup_rev{t sl:Addr}{xs:Array Value}{u:Tok}{Q:Value->Shared->Prop}(ht:IsTup s.heap t xs)(hs:s.heap.IsSliceOf sl .none .none (.int (-1) u))(hz:xs.size<=10000)(h:Q (.ref s.heap.objs.size) {s with heap:=s.heap.push {cls:= .type "tuple",data:= .seq xs.toList.reverse.toArray}}):wpAny (model prog w) A (getItem (.ref t) (.ref sl)) Q E s:=by
 obtain⟨os,hos,hcs,hds⟩:=id hs;have tsl:s.TypeIs (.ref sl) "slice":=⟨os,hos,hcs⟩
 unfold getItem
 try with_reducible refine Qb9 ?_
 first|refine Gt (Qa0 ?_)|skip
 refine Gt (wpAny_sequenceKey ht.typeIs (by decide) (Gt (Qc1 (name:=Str.ofString "__getitem__") ht.typeIs PyProof.Rows.slot_tuple_getitem (Qd0 PyProof.Rows.slot_tuple_getitem ht.typeIs entry_tuple_getitem ?_ (args_tuple_getitem _ _)))));show wpAny _ _ (Builtin.Tuple.tupleItemsOf (.ref t) >>=λ_=>_) _ _ s;refine Gt (tupleItemsOf_ ht (Gt (Qc8 tsl ?_)));rw[Qa2 (by decide)];refine Gt (R0 hs ?_);show wpAny _ _ (ite ((((xs.size:Int) - 1)==0 && (-1:Int)==1 && xs.size==xs.size)=true) _ _) _ _ s;rw[Qa1 (by simp)];refine Gt (m:=Builtin.Tuple.tupleExact _) ?_;unfold Builtin.Tuple.tupleExact;rw[Z6];refine Qc0 ?_ (L2.small (by simpa using hz));exact Qa0 ⟨_,rfl,Qa0 h⟩
end
end HT
namespace L2
open PySem PySem.Spec PyProof.Rows
section
variable{X:Cx}{e:Expr}{te:TE}{pos p2:Pos}
def tRevT(K:Frag)(te:TE)(ts:TO):TE:=λσ H Q=>te σ H λx H1=>ts σ H1 λo H2=>∃(a:Addr) (xs:List V),o=some (-1)/\x= .ref a/\SqT K H2 a xs/\xs.length<=10000/\∀p,H2 p=none->Q (.ref p) (upd H2 p (.tup xs.reverse))
theorem pe_revT{st:Expr}{ts:TO}(he:PE X e te)(hs:PO X (some st) ts)(ops:Value->Value->List Value)(hsub:∀o i,subscripted (.Slice none none (some st) p2) false o i=operate (ops o i) (getItem o i)):PE X (.Subscript e (.Slice none none (some st) p2) pos) (tRevT X.K te ts):=by
 intro pins s σ H Q I h;refine Subscript_ (thn (he pins s σ H _ I h) λv s1 ⟨x,H1,I1,r1,q1⟩=>wpAny_Slice ?_);rw[evalPart_none];refine Qa0 (Qa0 (thn (hs pins s1 σ H1 _ I1 q1) λvs s2 ⟨o,H2,I2,ps,a,xs,q2⟩=> ?_));obtain⟨rfl,rfl,hq,hl,q⟩:=q2;cases r1;have I4:Inv X pins σ H2 {s2 with heap:=s2.heap.push {cls:= .type "slice",data:= .fields #[.none,.none,vs]}}:=I2.kept (t':=s2.toks) λb ob q=>Lt _ q;obtain⟨its,r,ht,hz⟩:=I4.tuple hq;have hlen:=r.length;show wpAny (model X.prog X.w) X.A (subscriptTail e (.Slice none none (some st) p2) (.ref a) (.ref s2.heap.objs.size)) (EP X pins σ Q) X.xe {s2 with heap:=s2.heap.push {cls:= .type "slice",data:= .fields #[.none,.none,vs]}};refine tail_any (ops:=ops (.ref a) (.ref s2.heap.objs.size)) ht.typeIs PyProof.Rows.slot_tuple_getitem.lookup ?_ (hsub _ _);cases ps with
 |int i t=>
  refine HT.getItem_tup_rev ht (IsSliceOf.new ..) (by rw[size_toArray];omega) ⟨.ref _,_,I4.laid (t':=s2.toks) (o:= .tup xs.reverse) (λb ob q=>Lt _ q) (le_refl _) ⟨small (by rw[length_reverse];exact hl),its.reverse,r.reverse,?_⟩,rfl,q _ I4.fresh⟩;exact IsTupN.new _ _
end
end L2
namespace Wk
open PySem L2
def B3(S:List T4)(v:Nat)(n:Str):Option Nat:=match S.find? λt=>decide (t.1=n) with
 |none=>none
 |some t=>if v=t.2.1 then some t.2.2.1 else if v=t.2.2.1 then some t.2.1 else none
def goF(S:List T4):Nat->List Str->Option Nat
 |v,[]=>some v
 |v,n::ns=>match B3 S v n with
  |none=>none
  |some u=>goF S u ns
theorem Rb{S:List T4}{n:Str}:∀{ws:List Str} {v u:Nat},goF S v ws=some u->goF S v (ws++[n])=B3 S u n
 |[],v,u,h=>by
  cases h;show (match B3 S v n with|none=>none|some u=>goF S u [])=_;cases B3 S v n<;> rfl
 |m::ws,v,u,h=>by
  show (match B3 S v m with|none=>none|some u=>goF S u (ws++[n]))=_;have h:(match B3 S v m with|none=>none|some u=>goF S u ws)=some u:=h;cases g:B3 S v m with
  |none=>rw[g] at h;cases h
  |some z=>rw[g] at h;exact Rb h
theorem Zz{S:List T4}(nd:(S.map (·.1)).Nodup){t:T4}(ht:t∈S):S.find? (λu=>decide (u.1=t.1))=some t:=by
 induction S with
 |nil=>cases ht
 |cons a S ih=>
  rw[Qb1,Qd3] at nd;rw[find?_cons];rcases Qa6.mp ht with rfl|h
  ·simp
  ·have:a.1≠t.1:=λe=>nd.1 (by rw[e];exact List.mem_map_of_mem h);simp only[this,decide_false];exact ih nd.2 h
theorem Ga{S:List T4}(nd:(S.map (·.1)).Nodup){t:T4}(ht:t∈S):B3 S t.2.1 t.1=some t.2.2.1/\B3 S t.2.2.1 t.1=some t.2.1:=by
 unfold B3;rw[Zz nd ht];refine⟨by simp,?_⟩;show (if t.2.2.1=t.2.1 then some t.2.2.1 else if t.2.2.1=t.2.2.1 then some t.2.1 else none)=_;by_cases g:t.2.2.1=t.2.1
 ·rw[Qa2 g,g]
 ·rw[Qa1 g,Qa2 rfl]
theorem V0{K:Frag}{H:Hp}{Q:VK}{a b:Addr}{xs ys:List V}(ha:H a=some (.tup xs))(hb:H b=some (.tup ys))(hl:xs.length+ys.length<=10000)(k:∀t H',Same H H'->H' t=some (.tup (xs++ys))->Q (.ref t) H'):rCatTT K (.ref a) (.ref b) H Q:=by
 refine⟨a,b,_,_,rfl,rfl,SqT.of ha,SqT.of hb,small hl,λe=>k b H (Cw H) ?_,λ_ e=>k a H (Cw H) ?_,λ_ _ p hp=>k p _ (Ac hp) Ab⟩
 ·rw[e];exact hb
 ·rw[e,Qc9];exact ha
theorem Fq{K:Frag}{H:Hp}{Q:VK}{a:Addr}{xs:List V}{lo hi:Option Int}(ha:H a=some (.tup xs))(k:∀t H',Same H H'->H' t=some (.tup (Ee xs lo hi))->Q (.ref t) H'):Lo K (.ref a) lo hi H Q:=by
 refine⟨a,xs,rfl,SqT.of ha,λw=>k a H (Cw H) ?_,λ_ p hp=>k p _ (Ac hp) Ab⟩;have:Ee xs lo hi=xs:=by
  unfold Ee;rw[w.1,w.2];simp
 rw[this];exact ha
theorem Tu{σ:L2.St}{H:Hp}{f:Option Int->Hp->Prop}(h:f none H):Pb σ H f:=h
end Wk
namespace PySem
section
variable{prog:Program}{w:World}{A:Around}{E:Value->Shared->Prop}{h:Heap}{g:Array GenState}{d:Drawn}{t:Nat}{os:OsState}{a:Addr}{n:Nat}{its:Array Value}
theorem Uj(v:Value):firstArgMember (.type "AttributeError") [v]=pure Value.none:=by kernel_rfl
theorem Er:isSubtype (.type "AttributeError") (.type "AttributeError")=pure true:=by rw[isSubtype_type];kernel_rfl
theorem T9{α:Type}{s:Shared}{o:Value}{name msg:Str}{Q:α->Shared->Prop}(hm:msg.length<=sizeLine)(hh:A.handled=none)(hq:∀(h':Heap) (e:Addr) (t':Nat),(∀b o,s.heap.get? b=some o->h'.get? b=some o)->(∃o,h'.get? e=some o/\o.cls= .type "AttributeError")->E (.ref e) {s with heap:=h',toks:=t'}):
  wpAny (model prog w) A (raiseAttrError o name msg:Sem α) Q E s:=by
 unfold raiseAttrError;refine Gt (wpAny_mkStr ?_ hm);unfold newExc newTuple;refine Gt (Gt (Qc0 ?_));refine Gt (m:=firstArgMember _ _) (wpAny_of_eq (Uj _) ?_);refine Qc0 ?_;refine Gt (wpAny_mkText ?_);generalize eh1:(s.heap.push {cls:= .type "tuple",data:= .seq #[Value.str msg s.toks]})=h1;have k1:∀b o,s.heap.get? b=some o->h1.get? b=some o:=λb o e=>by rw[<-eh1];exact Lt _ e
 have ge:=Qa5 h1 (o:={cls:= .type "AttributeError",data:= .fields (#[Value.ref s.heap.objs.size,.none,.none,.none,.bool false,.none]++ownMembersOf (.type "AttributeError") [Value.str msg s.toks])}) rfl;have k2:∀b o,h1.get? b=some o->(h1.push {cls:= .type "AttributeError",data:= .fields (#[Value.ref s.heap.objs.size,.none,.none,.none,.bool false,.none]++ownMembersOf (.type "AttributeError") [Value.str msg s.toks])}).get? b=some o:=λb o e=>Lt _ e;have nw:h1.get? h1.objs.size=none:=Heap.get?_none_of_le (le_refl _);generalize h1.objs.size=e at ge nw ⊢;have eo:(#[Value.ref s.heap.objs.size,.none,.none,.none,.bool false,.none]++ownMembersOf (.type "AttributeError") [Value.str msg s.toks])= #[Value.ref s.heap.objs.size,.none,.none,.none,.bool false,.none,rawInt 0,rawInt 0]:=rfl;rw[eo] at ge k2 ⊢;generalize (h1.push {cls:= .type "AttributeError",data:= .fields #[Value.ref s.heap.objs.size,.none,.none,.none,.bool false,.none,rawInt 0,rawInt 0]})=h2 at ge k2 ⊢;have hT:TypeIs {s with heap:=h2,toks:=s.toks+1+1} (.ref e) "AttributeError":=⟨_,ge,rfl⟩
 have sb:=Er;refine Gt ?_;unfold noteAttr;dsimp only;refine Gt ?_;unfold lacksNameAndObj;dsimp only;refine Gt (wpAny_isInstance hT sb ?_);simp only[Bool.not_true,Qf9,if_false];refine Gt (wpAny_load ge ?_);refine wpAny_of_eq (a:=true) (by rfl) ?_;simp only[Qe7];refine Gt (Qd5 ?_);refine Gt (Qc8 hT ?_);dsimp only;unfold layMembers;refine Gt (wpAny_load ge ?_);dsimp only;refine wpAny_update ge ?_;refine wpAny_raiseNew_none hh (hq _ e _ (λb o' eb=> ?_) ⟨_,Heap.get?_update_self _ ge rfl,rfl⟩);have eb2:=k1 _ _ eb;exact Heap.get?_update_of_ne _ (λz=>by rw[<-z,nw] at eb2;cases eb2) (k2 _ _ (k1 _ _ eb))
end
namespace F
theorem entry_dict_update_loop:entryFor table "dict.update.loop"=some Builtin.«dict.update.loop» :=entryFor_of_tree (by kernel_rfl)
theorem plain_dict_update_loop:plainId "dict.update.loop"=true:=by decide+kernel
theorem mro_dict:mroOf (.type "dict")=pure [.type "dict",.type "object"]:=by rw[mroOf_type];kernel_rfl
theorem Kf:typeLookup (.type "dict") "__new__"=pure (some (.builtin "dict.__new__")):=by rw[typeLookup_type,builtinLookup_eq_fast];kernel_rfl
theorem called_dict:TypeCalled "dict" "dict.__new__" "dict.__init__":=
 ⟨by decide+kernel,by decide+kernel,⟨_,_,mro_dict⟩,madeBy_type mro_dict Kf (by decide+kernel),by decide+kernel,by rw[isSubtype_type];kernel_rfl,slot_dict_init⟩
theorem typeCall_dict_1(a:Value):checkTypeCall "dict" ⟨[a],[]⟩=pure ():=by kernel_rfl
theorem newCall_dict_1(a:Value):checkBuiltinCall "dict.__new__" ⟨[.type "dict",a],[]⟩=pure ():=by kernel_rfl
theorem entry_dict_new:entryFor table "dict.__new__"=some Builtin.«dict.__new__» :=entryFor_of_tree (by kernel_rfl)
theorem plain_dict_new:plainId "dict.__new__"=true:=by decide+kernel
end F
theorem Nh:isSubtype (.type "dict") (.type "dict")=pure true:=by rw[isSubtype_type];kernel_rfl
section
variable{prog:Program}{w:World}{A:Around}{E:Value->Shared->Prop}{s:Shared}
theorem Nl(a:Value){Q₁:Value->Shared->Prop}(h:Q₁ (.ref s.heap.objs.size) {s with heap:=s.heap.push {cls:= .type "dict",data:= .dict #[]}}):
  codeAny (model prog w) A (.call (.builtin "dict.__new__") ⟨[.type "dict",a],[]⟩) (wants Q₁ E) s:=by
 refine codeAny_of_tree ?_;show wpAny _ A.in1 (do checkBuiltinCall "dict.__new__" ⟨[.type "dict",a],[]⟩;again (.builtin "dict.__new__" ⟨[.type "dict",a],[]⟩)) _ _ s;refine Gt (wpAny_of_eq (F.newCall_dict_1 a) (Qa0 ⟨plainId_quiet F.plain_dict_new _,Qe4 F.entry_dict_new ?_⟩));rw[Around.under_plainId F.plain_dict_new _];unfold Builtin.«dict.__new__»;have hsub:=Nh;have hm:=F.mro_dict;obtain⟨hp,g,d,tk,os⟩:=s;dsimp only
 wp_walk
 exact h
end
end PySem
namespace Wk
open PySem L2
theorem Ku{S:List T4}{ys:List Str}:∀{xs:List Str} {p u:Nat},goF S p xs=some u->goF S p (xs++ys)=goF S u ys
 |[],p,u,h=>by cases h;rfl
 |n::xs,p,u,h=>by
  show (match B3 S p n with|none=>none|some z=>goF S z (xs++ys))=_;have h:(match B3 S p n with|none=>none|some z=>goF S z xs)=some u:=h;cases g:B3 S p n with
  |none=>rw[g] at h;cases h
  |some z=>rw[g] at h;exact Ku h
theorem Qe{S:List T4}{ys:List Str}:∀{xs:List Str} {p q:Nat},goF S p (xs++ys)=some q->∃u,goF S p xs=some u/\goF S u ys=some q
 |[],p,q,h=>⟨p,rfl,h⟩
 |n::xs,p,q,h=>by
  have h:(match B3 S p n with|none=>none|some z=>goF S z (xs++ys))=some q:=h;cases g:B3 S p n with
  |none=>rw[g] at h;cases h
  |some z=>
   rw[g] at h;obtain⟨u,h1,h2⟩:=Qe h;refine⟨u,?_,h2⟩;show (match B3 S p n with|none=>none|some z=>goF S z xs)=_;rw[g];exact h1
theorem Px{S:List T4}{v u:Nat}{n:Str}(h:B3 S v n=some u):∃t∈S,t.1=n/\((v=t.2.1/\u=t.2.2.1)\/(v=t.2.2.1/\u=t.2.1)):=by
 unfold B3 at h;cases g:S.find? λt=>decide (t.1=n) with
 |none=>rw[g] at h;cases h
 |some t=>
  rw[g] at h;have h:(if v=t.2.1 then some t.2.2.1 else if v=t.2.2.1 then some t.2.1 else none)=some u:=h;refine⟨t,List.mem_of_find?_eq_some g,by simpa using List.find?_some g,?_⟩;split at h
  ·rename_i e;exact .inl ⟨e,(Option.some.inj h).symm⟩
  ·split at h
   ·rename_i e;exact .inr ⟨e,(Option.some.inj h).symm⟩
   ·cases h
theorem Yg{S:List T4}(nd:(S.map (·.1)).Nodup){v u:Nat}{n:Str}(h:B3 S v n=some u):B3 S u n=some v:=by
 obtain⟨t,ht,rfl,⟨e1,e2⟩|⟨e1,e2⟩⟩:=Px h
 ·rw[e1,e2];exact(Ga nd ht).2
 ·rw[e1,e2];exact(Ga nd ht).1
theorem over_lt{N:Nat}{S:List T4}(SN:InN N S){v u:Nat}{n:Str}(h:B3 S v n=some u):u<N:=by
 obtain⟨t,ht,_,⟨_,e⟩|⟨_,e⟩⟩:=Px h
 ·rw[e];exact(SN t ht).2
 ·rw[e];exact(SN t ht).1
theorem goF_lt{N:Nat}{S:List T4}(SN:InN N S):∀{ws:List Str} {p q:Nat},p<N->goF S p ws=some q->q<N
 |[],p,q,hp,h=>by cases h;exact hp
 |n::ws,p,q,hp,h=>by
  have h:(match B3 S p n with|none=>none|some z=>goF S z ws)=some q:=h;cases g:B3 S p n with
  |none=>rw[g] at h;cases h
  |some z=>rw[g] at h;exact goF_lt SN (over_lt SN g) h
theorem Wf{S:List T4}{p u:Nat}{n:Str}(h:B3 S p n=some u):goF S p [n]=some u:=by
 show (match B3 S p n with|none=>none|some z=>goF S z [])=_;rw[h];rfl
theorem V1{S:List T4}(nd:(S.map (·.1)).Nodup):∀{ws:List Str} {p q:Nat},goF S p ws=some q->goF S q ws.reverse=some p
 |[],p,q,h=>by cases h;rfl
 |n::ws,p,q,h=>by
  have h:(match B3 S p n with|none=>none|some z=>goF S z ws)=some q:=h;cases g:B3 S p n with
  |none=>rw[g] at h;cases h
  |some z=>
   rw[g] at h;rw[List.reverse_cons,Ku (V1 nd h)];exact Wf (Yg nd g)
def Ring(N:Nat)(S:List T4)(ws:List Str):Prop:=ws.length % 2=1/\∃p,p<N/\goF S p ws=some p
theorem Ri{S:List T4}{f:Nat->Int}(two:∀v,f v=0\/f v=1)(h:∀t∈S,f t.2.1≠f t.2.2.1):∀{ws:List Str} {p q:Nat},goF S p ws=some q->(ws.length % 2=0↔f p=f q)
 |[],p,q,g=>by cases g;simp
 |n::ws,p,q,g=>by
  have g:(match B3 S p n with|none=>none|some z=>goF S z ws)=some q:=g;cases o:B3 S p n with
  |none=>rw[o] at g;cases g
  |some z=>
   rw[o] at g;have ih:=Ri two h g;have hne:f p≠f z:=by
    obtain⟨t,ht,_,⟨e1,e2⟩|⟨e1,e2⟩⟩:=Px o
    ·rw[e1,e2];exact h t ht
    ·rw[e1,e2];exact Ne.symm (h t ht)
   have a:=two p;have b:=two z;have c:=two q;rw[Qb4];constructor
   ·intro e;have:¬f z=f q:=λk=>by have:=ih.mpr k;omega
    omega
   ·intro e;have:¬ws.length % 2=0:=λk=>by have:=ih.mp k;omega
    omega
theorem Tc{N:Nat}{S:List T4}{f:Nat->Int}{ws:List Str}(hr:Ring N S ws)(two:∀v,f v=0\/f v=1):¬∀t∈S,f t.2.1≠f t.2.2.1:=λh=>by
 obtain⟨h1,p,hp,g⟩:=hr;have:=(Ri two h g).mpr rfl;omega
theorem Ko{S:List T4}(nd:(S.map (·.1)).Nodup){a b:Nat}{ws:List Str}(h:Lead S a ws b):goF S a ws=some b:=by
 induction h with
 |nil=>rfl
 | @snoc ws b c n _ q ih=>
  rw[Rb ih];obtain⟨t,ht,rfl,⟨e1,e2⟩|⟨e1,e2⟩⟩:=Pt q
  ·rw[<-e1,<-e2];exact(Ga nd ht).1
  ·rw[<-e1,<-e2];exact(Ga nd ht).2
def lsF(N:Nat)(S:List T4):List Nat:=(List.range N).filter λp=>decide ((Az N S p)[0]? =some p)
theorem Kj{N p q:Nat}{S:List T4}(hS:InN N S)(hp:p<N)(hq:q<N)(hN:N<=60)(h:Reach S p q):Az N S p=Az N S q:=by
 rw[Sb hS hp hN,Sb hS hq hN,(Kp hS hp hq).mpr h]
theorem E1{N p:Nat}{S:List T4}(hS:InN N S)(hp:p<N)(hN:N<=60):p∈Az N S p:=(Cp hS hp hN).mpr ⟨hp,.refl⟩
theorem Nq{N p:Nat}{S:List T4}(hS:InN N S)(hp:p<N)(hN:N<=60):∃q,(Az N S p)[0]? =some q/\q∈lsF N S/\Reach S q p:=by
 have hm:=E1 hS hp hN;have hl:0<(Az N S p).length:=Qg3 hm;have h0:=Cc hl;refine⟨_,h0,?_⟩;have hq:=(Cp hS hp hN).mp (getElem_mem hl);refine⟨mem_filter.mpr ⟨mem_range.mpr hq.1,?_⟩,hq.2.symm⟩;rw[Qa4,<-Kj hS hp hq.1 hN hq.2];exact h0
theorem P8{N p q:Nat}{S:List T4}(hS:InN N S)(hN:N<=60)(hp:p∈lsF N S)(hq:q∈lsF N S)(h:Reach S p q):p=q:=by
 obtain⟨p1,p2⟩:=mem_filter.mp hp;obtain⟨q1,q2⟩:=mem_filter.mp hq;rw[Qa4] at p2 q2;rw[Kj hS (mem_range.mp p1) (mem_range.mp q1) hN h,q2] at p2;exact(Option.some.inj p2).symm
theorem Ha{N p:Nat}{S:List T4}(hp:p∈lsF N S):p<N:=mem_range.mp (mem_filter.mp hp).1
def FL(N:Nat)(S:List T4)(v:Nat)(ws:List Str):Prop:=∃p∈lsF N S,Vis (Dq N S p) v ws
theorem FL.len{N v:Nat}{S:List T4}{ws:List Str}(hS:InN N S)(h:FL N S v ws):ws.length<=N:=by
 obtain⟨p,hp,hv⟩:=h;exact Sz hS (Ha hp) hv
theorem FL.tie{N:Nat}{S:List T4}{x y:List Str}{t:T4}(hS:InN N S)(hN:N<=60)(ht:t∈S)(hx:FL N S t.2.1 x)(hy:FL N S t.2.2.1 y):∃p,p<N/\Lead S p x t.2.1/\Lead S p y t.2.2.1/\x.length<=y.length+1/\y.length<=x.length+1:=by
 obtain⟨p,hp,vx⟩:=hx;obtain⟨q,hq,vy⟩:=hy;have pN:=Ha hp;have qN:=Ha hq;have lx:=Dy hS pN hN vx;have ly:=Dy hS qN hN vy;have e:p=q:=P8 hS hN hp hq ((Reach.trans ⟨x,lx⟩ (.step (Gf ht))).trans (Reach.symm ⟨y,ly⟩));subst e;obtain⟨y',vy',hy'⟩:=Hf hS pN hN (Lead.snoc lx (Gf ht));obtain⟨x',vx',hx'⟩:=Hf hS pN hN (Lead.snoc ly (V2 (Gf ht)));rw[Kn vy' vy,Qa3] at hy';rw[Kn vx' vx,Qa3] at hx';exact⟨p,pN,lx,ly,hx',hy'⟩
def Two(S:List T4):Prop:=∃f:Nat->Int,(∀v,f v=0\/f v=1)/\∀t∈S,f t.2.1≠f t.2.2.1
theorem Two.mono{S S':List T4}(h:Two S)(s:∀t∈S',t∈S):Two S':=let ⟨f,a,b⟩:=h;⟨f,a,λt ht=>b t (s t ht)⟩
theorem Ring.not{N:Nat}{S:List T4}{ws:List Str}(h:Ring N S ws):¬Two S:=λ⟨f,a,b⟩=>Tc h a b
theorem Yn{N p:Nat}{S:List T4}{x y c x' y':List Str}{t:T4}(hS:InN N S)(nd:(S.map (·.1)).Nodup)(pN:p<N)(ht:t∈S)(lx:Lead S p x t.2.1)(ly:Lead S p y t.2.2.1)(ex:x=c++x')(ey:y=c++y')(hl:x.length=y.length):Ring N S (x'++[t.1]++y'.reverse):=by
 have gx:=Ko nd lx;have gy:=Ko nd ly;rw[ex] at gx;rw[ey] at gy;obtain⟨u,hu,h1⟩:=Qe gx;obtain⟨u',hu',h2⟩:=Qe gy;rw[hu] at hu';cases hu';have hl':x'.length=y'.length:=by rw[ex,ey,Qa3,Qa3] at hl;omega
 refine⟨by rw[Qa3,Qa3,length_reverse];show (_+1+_) % 2=1;omega,u,goF_lt hS pN hu,?_⟩;have h3:goF S t.2.1 [t.1]=some t.2.2.1:=Wf (Ga nd ht).1;rw[append_assoc,Ku h1,Ku h3];exact V1 nd h2
def Zr(N:Nat)(l:List Nat):Prop:=l.length=N/\∀v,v<N->l.getD v 0<=v/\l.getD (l.getD v 0) 0=l.getD v 0
theorem low_step{N:Nat}{l:List Nat}{t:T4}(h:Zr N l)(h1:t.2.1<N)(h2:t.2.2.1<N):Zr N (Jo l t):=by
 obtain⟨hl,h⟩:=h;refine⟨by rw[Ed];exact hl,λv hv=> ?_⟩;have a:=h _ h1;have b:=h _ h2;have c:=h v hv;have g:∀u,u<N->(Jo l t).getD u 0=if l.getD u 0=max (l.getD t.2.1 0) (l.getD t.2.2.1 0) then min (l.getD t.2.1 0) (l.getD t.2.2.1 0) else l.getD u 0:=λu hu=>Ec (by omega)
 have lo:l.getD (min (l.getD t.2.1 0) (l.getD t.2.2.1 0)) 0=min (l.getD t.2.1 0) (l.getD t.2.2.1 0):=by
  rcases Nat.le_total (l.getD t.2.1 0) (l.getD t.2.2.1 0) with z|z
  ·rw[min_eq_left z];exact a.2
  ·rw[Nat.min_eq_right z];exact b.2
 rw[g v hv];by_cases e:l.getD v 0=max (l.getD t.2.1 0) (l.getD t.2.2.1 0)
 ·rw[Qa2 e];have hm:min (l.getD t.2.1 0) (l.getD t.2.2.1 0)<N:=by omega
  refine⟨by omega,?_⟩;rw[g _ hm,lo];split<;> rfl
 ·rw[Qa1 e];refine⟨c.1,?_⟩;rw[g _ (by omega),c.2,Qa1 e]
theorem Yu{N:Nat}{S:List T4}(hS:InN N S):Zr N (Jc N S):=by
 have:∀(S:List T4) (l:List Nat),InN N S->Zr N l->Zr N (S.foldl Jo l):=by
  intro S
  induction S with
  |nil=>intro l _ h;exact h
  |cons t S ih=>
   intro l hS h;have ht:=hS t (Qa9 ..);exact ih _ (λu hu=>hS u (Qa8 _ hu)) (low_step h ht.1 ht.2)
 refine this S (List.range N) hS ⟨Qe0,λv hv=> ?_⟩;have e:∀u,u<N->(List.range N).getD u 0=u:=λu hu=>by rw[Qb5,getElem?_range hu];rfl
 rw[e v hv,e v hv];exact⟨le_refl _,rfl⟩
theorem lab_ls{N v:Nat}{S:List T4}(hS:InN N S)(hN:N<=60)(hv:v<N):(Jc N S).getD v 0∈lsF N S/\Reach S ((Jc N S).getD v 0) v:=by
 have low:=Yu hS;have c:=low.2 v hv;have pN:(Jc N S).getD v 0<N:=by omega
 have r:Reach S ((Jc N S).getD v 0) v:=(Kp hS pN hv).mp c.2;refine⟨mem_filter.mpr ⟨mem_range.mpr pN,?_⟩,r⟩;rw[Qa4];have hm:=E1 hS pN hN;have hl:0<(Az N S ((Jc N S).getD v 0)).length:=Qg3 hm;have h0:=Cc hl;rw[h0]
 congr 1
 have hq:=(Cp hS pN hN).mp (getElem_mem hl);have e:=(Kp hS pN hq.1).mpr hq.2;rw[c.2] at e;have l1:=(low.2 _ hq.1).1;obtain⟨i,hi,ei⟩:=List.mem_iff_getElem.mp hm;rcases Nat.eq_zero_or_pos i with z|z
 ·subst z;exact ei
 ·have:=Qe5.mp (part_up (N:=N) (p:=(Jc N S).getD v 0) (S:=S)) 0 i hl hi z;rw[ei] at this;omega
theorem ls_up{N:Nat}{S:List T4}:(lsF N S).Pairwise (·<·):=by
 unfold lsF;exact(Qf5).sublist Qg8
def Par(N:Nat)(S:List T4)(v:Nat)(s:Int):Prop:=∃p∈lsF N S,∃ws,Lead S p ws v/\s=((ws.length % 2:Nat):Int)
theorem FL.par{N v:Nat}{S:List T4}{ws:List Str}(hS:InN N S)(hN:N<=60)(h:FL N S v ws):Par N S v ((ws.length % 2:Nat):Int):=by
 obtain⟨p,hp,hv⟩:=h;exact⟨p,hp,ws,Dy hS (Ha hp) hN hv,rfl⟩
end Wk
namespace L2
open PySem
section
variable{g:TG}{tb:TS}{D:Ey}{σ:St}{H:Hp}
theorem Na{K:Frag}{a:Addr}{xs:List V}(Pv:Nat->St->Hp->Prop)(h0:Pv 0 σ H)(hl:∀i σ H,i<=xs.length->Pv i σ H->SqT K H a xs)(hs:∀i x σ H,xs[i]? =some x->Pv i σ H->∀E:Ey,(∀σ H,Pv (i+1) σ H->E.nx σ H)->(∀v H,D.rt v H->E.rt v H)->g x σ H λσ2 H2=>tb E σ2 H2)(hd:∀σ H,Pv xs.length σ H->D.nx σ H):
  ∃W:Nat->Nat->St->Hp->Prop,(∃m,W 0 m σ H)/\∀i m σ H,W i m σ H->
   ((Itt K a).stop i H/\D.nx σ H)\/((Itt K a).go i H/\∃N:St->Hp->Prop,(∀σ' H',N σ' H'->∃m',m'<m/\W (i+1) m' σ' H')/\∀x H',(Itt K a).yld i H x H'->g x σ H' λσ2 H2=>tb {D with nx:=N,ct:=N,bk:=D.nx} σ2 H2):=
 Jd Pv h0 hl (λi x σ H hx p=>hs i x σ H hx p _ (λ_ _ h=>h) (λ_ _ h=>h)) hd
theorem Xg{K:Frag}{a:Addr}{xs:List V}(Pv:Nat->St->Hp->Prop)(h0:Pv 0 σ H)(hl:∀i σ H,i<=xs.length->Pv i σ H->SqL K H a xs)(hs:∀i x σ H,xs[i]? =some x->Pv i σ H->∀E:Ey,(∀σ H,Pv (i+1) σ H->E.nx σ H)->(∀v H,D.rt v H->E.rt v H)->g x σ H λσ2 H2=>tb E σ2 H2)(hd:∀σ H,Pv xs.length σ H->D.nx σ H):
  ∃W:Nat->Nat->St->Hp->Prop,(∃m,W 0 m σ H)/\∀i m σ H,W i m σ H->
   ((Itl K a).stop i H/\D.nx σ H)\/((Itl K a).go i H/\∃N:St->Hp->Prop,(∀σ' H',N σ' H'->∃m',m'<m/\W (i+1) m' σ' H')/\∀x H',(Itl K a).yld i H x H'->g x σ H' λσ2 H2=>tb {D with nx:=N,ct:=N,bk:=D.nx} σ2 H2):=
 Ej Pv h0 hl (λi x σ H hx p=>hs i x σ H hx p _ (λ_ _ h=>h) (λ_ _ h=>h)) hd
theorem Wy{c:TT}(Pv:Nat->St->Hp->Prop){m0:Nat}(h0:Pv m0 σ H)(hs:∀m σ H,Pv m σ H->∀E:Ey,(∀m' σ' H',m'<m->Pv m' σ' H'->E.nx σ' H')->(∀v H,D.rt v H->E.rt v H)->c σ H λb H1=>if b=true then tb E σ H1 else D.nx σ H1)(mono:∀σ H Q Q',(∀b H1,Q b H1->Q' b H1)->c σ H Q->c σ H Q'):Pe c tb D σ H:=
 Rr Pv h0 (λm σ H p=>hs m σ H p _ (λm' _ _ l h=>⟨m',l,h⟩) (λ_ _ h=>h)) mono
end
end L2
namespace StT
open PySem
def Up(xs:Array Nat):Prop:=xs.toList.Pairwise (·<·)
theorem Up.lt{xs:Array Nat}(h:Up xs){i k a b:Nat}(ik:i<k)(ha:xs[i]? =some a)(hb:xs[k]? =some b):a<b:=by
 rw[<-Qf4] at ha hb;obtain⟨h1,e1⟩:=List.getElem?_eq_some_iff.mp ha;obtain⟨h2,e2⟩:=List.getElem?_eq_some_iff.mp hb;rw[<-e1,<-e2];exact Qe5.mp h i k h1 h2 ik
theorem Z9{xs:Array Nat}{j:Nat}(h:Up xs):∀(fuel lo hi:Nat),lo<=hi->hi<=xs.size->hi - lo<=fuel->(∀i a,i<lo->xs[i]? =some a->a<j)->(∀i a,hi<=i->xs[i]? =some a->j<=a)->
  SetTable.below.go xs j fuel lo hi<=xs.size/\(∀i a,i<SetTable.below.go xs j fuel lo hi->xs[i]? =some a->a<j)/\∀i a,SetTable.below.go xs j fuel lo hi<=i->xs[i]? =some a->j<=a
 |0,lo,hi,h1,h2,h3,h4,h5=>by
  have:lo=hi:=by omega
  subst this;exact⟨h2,h4,h5⟩
 |fuel+1,lo,hi,h1,h2,h3,h4,h5=>by
  unfold SetTable.below.go;by_cases c:lo<hi
  ·rw[Qa2 c];have hm:(lo+hi) / 2<xs.size:=by omega
   have hg:xs[(lo+hi) / 2]? =some (xs.getD ((lo+hi) / 2) j):=by
    rw[Array.getD_eq_getD_getElem?,Array.getElem?_eq_getElem hm];rfl
   dsimp only;by_cases d:xs.getD ((lo+hi) / 2) j<j
   ·rw[Qa2 d];refine Z9 h fuel _ _ (by omega) h2 (by omega) (λi a hi' ha=> ?_) h5;rcases Nat.lt_or_eq_of_le (show i<=(lo+hi) / 2 by omega) with z|z
    ·exact lt_trans (h.lt z ha hg) d
    ·rw[z,hg] at ha;cases ha;exact d
   ·rw[Qa1 d];refine Z9 h fuel _ _ (by omega) (by exact le_of_lt (by assumption)) (by omega) h4 (λi a hi' ha=> ?_);rcases Nat.lt_or_eq_of_le hi' with z|z
    ·have:=h.lt z hg ha;omega
    ·rw[<-z,hg] at ha;cases ha;exact not_lt.mp (by assumption)
  ·rw[Qa1 c];have:lo=hi:=by omega
   subst this;exact⟨h2,h4,h5⟩
theorem Sv{xs:Array Nat}(h:Up xs)(j:Nat):SetTable.below xs j<=xs.size/\(∀i a,i<SetTable.below xs j->xs[i]? =some a->a<j)/\∀i a,SetTable.below xs j<=i->xs[i]? =some a->j<=a:=
 Z9 h xs.size 0 xs.size (Qc5 _) (le_refl _) (by exact le_refl _) (λi a hi=>absurd hi (by omega)) λi a hi ha=>by
  have:=(Array.getElem?_eq_some_iff.mp ha).1;omega
theorem Sc{α:Type}(xs:Array α)(p:Nat)(x:α)(hp:p<=xs.size):(SetTable.insertAt xs p x).toList=xs.toList.take p++[x]++xs.toList.drop p:=by
 unfold SetTable.insertAt;rw[Array.toList_append,Array.toList_push]
 congr 1
 ·congr 1
  rw[Array.toList_extract];simp
 ·rw[Array.toList_extract];simp only[List.extract_eq_drop_take];exact Qc6 (by rw[length_drop,length_toList];exact le_refl _)
theorem Vb{xs:Array Nat}{j:Nat}(h:Up xs)(hj:j∈xs.toList):xs[SetTable.below xs j]? =some j:=by
 obtain⟨i,hi⟩:=getElem?_of_mem hj;rw[Qf4] at hi;obtain⟨b1,b2,b3⟩:=Sv h j;have h1:SetTable.below xs j<=i:=by
  rcases lt_or_ge i (SetTable.below xs j) with z|z
  ·exact absurd (b2 i j z hi) (lt_irrefl _)
  ·exact z
 have hl:SetTable.below xs j<xs.size:=lt_of_le_of_lt h1 (Array.getElem?_eq_some_iff.mp hi).1;have hb:=Array.getElem?_eq_getElem hl;have h2:=b3 _ _ (le_refl _) hb;rcases Nat.lt_or_eq_of_le h1 with z|z
 ·have:=h.lt z hb hi;omega
 ·rw[z];exact hi
theorem Wp{xs:Array Nat}{j:Nat}(h:Up xs)(hj:j ∉ xs.toList):Up (SetTable.insertAt xs (SetTable.below xs j) j):=by
 obtain⟨b1,b2,b3⟩:=Sv h j;unfold Up;rw[Sc xs _ j b1];have lo:∀a∈xs.toList.take (SetTable.below xs j),a<j:=λa ha=>by
  obtain⟨i,hi⟩:=getElem?_of_mem ha;rw[List.getElem?_take] at hi;split at hi
  ·rename_i z;rw[Qf4] at hi;exact b2 i a z hi
  ·cases hi
 have hi:∀a∈xs.toList.drop (SetTable.below xs j),j<a:=λa ha=>by
  have hm:a∈xs.toList:=List.mem_of_mem_drop ha;obtain⟨i,hi⟩:=getElem?_of_mem ha;rw[List.getElem?_drop,Qf4] at hi;have:=b3 _ a (le_add_right _ _) hi;rcases Nat.lt_or_eq_of_le this with z|z
  ·exact z
  ·exact absurd (z▸hm) hj
 refine Qg2.mpr ⟨Qg2.mpr ⟨Pairwise.sublist (List.take_sublist ..) h,Qf2 ..,λa ha b hb=> ?_⟩,Pairwise.sublist (List.drop_sublist ..) h,λa ha b hb=> ?_⟩
 ·rw[mem_singleton.mp hb];exact lo a ha
 ·rcases mem_append.mp ha with z|z
  ·exact lt_trans (lo a z) (hi b hb)
  ·rw[mem_singleton.mp z];exact hi b hb
structure TOk(t:SetTable)(b:Bool):Prop where
 up:Up t.place
 nod:t.dummies= #[]
 led:t.led=b
theorem TOk.fresh(b:Bool):TOk (SetTable.fresh 0 0 b) b:=⟨Pairwise.nil,rfl,rfl⟩
theorem TOk.plain{t:SetTable}{b p:Bool}(h:TOk t b):TOk {t with plain:=p} b:=⟨h.up,h.nod,h.led⟩
theorem TOk.standIn{t:SetTable}{b:Bool}(h:TOk t b)(n:Nat):TOk (t.standIn n) b:=by
 refine⟨?_,rfl,h.led⟩;show Up (Array.range n);unfold Up;rw[Array.toList_range];exact Qf5
theorem Vk(j:Nat):SetTable.has #[] j=false:=rfl
theorem Tz{t:SetTable}{b:Bool}(h:TOk t b)(j:Nat):(t.slot j= .empty/\j ∉ t.place.toList)\/∃i,t.slot j= .live i:=by
 unfold SetTable.slot;dsimp only;by_cases c:(t.place[SetTable.below t.place j]? ==some j)=true
 ·rw[Qa2 c];exact .inr ⟨_,rfl⟩
 ·rw[Qa1 c,h.nod,Vk];refine .inl ⟨rfl,λhm=>c ?_⟩;rw[Vb h.up hm];simp
theorem Ng(t:SetTable)(p:SetTable.Probe):(t.advance p).dummy=p.dummy:=by
 unfold SetTable.advance;split
 ·rfl
 ·rfl
theorem M4{t:SetTable}{b:Bool}(h:TOk t b){hashAt:Nat->Int}{hh:Int}{j:Nat}{d:Option Nat}:∀(fuel:Nat) (p:SetTable.Probe),p.dummy=none->SetTable.probe.go t hashAt hh fuel p=some (.empty j d)->d=none/\j ∉ t.place.toList
 |0,p,_,e=>by simp[SetTable.probe.go] at e
 |fuel+1,p,hp,e=>by
  unfold SetTable.probe.go at e;rcases Tz h p.j with⟨s,hn⟩|⟨i,s⟩
  ·rw[s] at e;simp only[Option.some.injEq,SetTable.Met.empty.injEq] at e;exact⟨by rw[<-e.2,hp],by rw[<-e.1];exact hn⟩
  ·rw[s] at e;dsimp only at e;split at e
   ·cases e
   ·exact M4 h fuel _ (by rw[Ng];exact hp) e
theorem free_ok{t:SetTable}{b:Bool}(h:TOk t b){hh:Int}{s:Nat}{wd:Bool}(e:t.freeSlot hh=some (s,wd)):s ∉ t.place.toList:=by
 unfold SetTable.freeSlot at e;split at e
 ·rename_i j d q;obtain⟨rfl,hn⟩:=M4 h _ _ rfl q;simp only[getD_none,Option.some.injEq,Prod.mk.injEq] at e;rw[<-e.1];exact hn
 ·cases e
theorem TOk.or{t:SetTable}{b:Bool}(h:TOk t b)(n:Nat):TOk (t.orStandIn n) b:=by
 unfold SetTable.orStandIn;split
 ·exact h
 ·exact h.standIn n
theorem Yr{t:SetTable}{b:Bool}(h:TOk t b)(es:Array (Int×Value))(hh:Int)(x:Value):TOk (layNew t es hh x).2.1 b:=by
 unfold layNew;split
 ·rename_i s wd e;refine TOk.or (t:=(t.put s).1) ⟨Wp h.up (free_ok h e),?_,h.led⟩ _;show (if SetTable.has t.dummies s then _ else t.dummies)= #[];rw[h.nod,Vk];rfl
 ·exact h.standIn _
theorem laid_up{mask:Nat}{owner:Array (Option Nat)}:Up ((((List.range (mask+1)).filterMap λj=>(owner.getD j none).map (j,·)).map (·.1)).toArray):=by
 unfold Up;rw[List.toList_toArray];have:(((List.range (mask+1)).filterMap λj=>(owner.getD j none).map (j,·)).map (·.1)).Sublist (List.range (mask+1)):=by
  generalize List.range (mask+1)=l
  induction l with
  |nil=>exact List.Sublist.refl _
  |cons a l ih=>
   rw[Qg4];cases owner.getD a none with
   |none=>exact ih.cons a
   |some k=>exact ih.cons₂ a
 exact Pairwise.sublist this Qf5
theorem relay_ok{t:SetTable}{b:Bool}(h:TOk t b)(es:Array (Int×Value))(wanted:Nat):TOk (relayAll t es wanted).2.1 b:=by
 unfold relayAll;split
 ·rename_i t' order e;have ht:TOk t' b:=by
   unfold SetTable.relaid SetTable.laid at e;cases q:SetTable.layClean (SetTable.sizeAbove wanted - 1) (es.map (·.1)) with
   |none=>rw[q] at e;cases e
   |some owner=>
    rw[q] at e;have e:some (({mask:=SetTable.sizeAbove wanted - 1,place:=(((List.range (SetTable.sizeAbove wanted - 1+1)).filterMap λj=>(owner.getD j none).map (j,·)).map (·.1)).toArray,dummies:= #[],finger:=t.finger,led:=t.led,moves:=t.movedTo (SetTable.sizeAbove wanted - 1),plain:=t.plain}:SetTable),(((List.range (SetTable.sizeAbove wanted - 1+1)).filterMap λj=>(owner.getD j none).map (j,·)).map (·.2)).toArray)=some (t',order):=e;injection e with e;injection e with e _;rw[<-e];exact⟨laid_up,rfl,h.led⟩
  dsimp only;split
  ·exact ht
  ·exact h.standIn _
 ·exact h.standIn _
section
variable{prog:Program}{w:World}{K:Type}[DecidableEq K]{knd:KeyKind prog w K}{A:Around}{E:Value->Shared->Prop}{s:Shared}
def Dis(knd:KeyKind prog w K)(l:List (Int×Value)):Prop:=l.Pairwise λe e'=>∀k,¬(knd.is k e.2=true/\knd.is k e'.2=true)
theorem Dis.perm{l l':List (Int×Value)}(h:Dis knd l)(p:l'.Perm l):Dis knd l':=(p.pairwise_iff λ{x y} z k c=>z k ⟨c.2,c.1⟩).mpr h
theorem Dis.push{l:List (Int×Value)}{S:K->Bool}(h:Dis knd l)(mem:∀k,S k=true↔∃e∈l,knd.is k e.2=true){k:K}{x:Value}{i:Int}(hk:knd.is k x=true)(hS:S k=false):Dis knd (l++[(i,x)]):=by
 refine Qg2.mpr ⟨h,Qf2 ..,λe he e' he' k' c=> ?_⟩;rw[mem_singleton.mp he'] at c;have:=knd.inj x k' k c.2 hk;subst this;rw[(mem k').mpr ⟨e,he,c.1⟩] at hS;cases hS
def SetU(knd:KeyKind prog w K)(h:Heap)(a:Addr)(S:K->Bool)(n:Nat)(b:Bool):Prop:=∃o es ep t,h.get? a=some o/\o.ExactSet/\o.data= .set es ep t/\ElemsOf knd es.toList/\(∀k,S k=true↔∃e∈es.toList,knd.is k e.2=true)/\es.size<scanBound/\t.fits es.size=true/\es.size=n/\TOk t b/\Dis knd es.toList
theorem SetU.congr{h:Heap}{a:Addr}{S S':K->Bool}{n n':Nat}{b:Bool}(x:SetU knd h a S n b)(e:∀k,S k=S' k)(en:n=n'):SetU knd h a S' n' b:=by
 obtain rfl:S=S':=funext e;subst en;exact x
theorem SetU.put{h:Heap}{a:Addr}{o:Obj}{es:Array (Int×Value)}{ep:Nat}{t:SetTable}{b:Bool}(ho:h.get? a=some o)(hex:o.ExactSet)(hd:o.data= .set es ep t){es':Array (Int×Value)}{t':SetTable}{S':K->Bool}(el:ElemsOf knd es'.toList)(mem:∀k,S' k=true↔∃e∈es'.toList,knd.is k e.2=true)(sz:es'.size<scanBound)(fit:t'.fits es'.size=true)(ok:TOk t' b)(dis:Dis knd es'.toList):
  (h.update a (Obj.putSet es' t')).get? a=some {o with data:= .set es' (ep+1) t'}/\SetU knd (h.update a (Obj.putSet es' t')) a S' es'.size b:=by
 have z:=(SetOf_store (knd:=knd) (es':=es') (t':=t') (S':=S') ho hex hd el mem sz fit).1;exact⟨z,_,es',ep+1,t',z,hex,rfl,el,mem,sz,fit,rfl,ok,dis⟩
theorem R8{g:Bool->Sem Unit}(hg:∀(c:Bool) (s1:Shared) (Q1:Unit->Shared->Prop),Q1 () s1->wpAny (model prog w) A (g c) Q1 E s1){a:Addr}{o:Obj}{es:Array (Int×Value)}{ep:Nat}{t:SetTable}{b:Bool}(ho:s.heap.get? a=some o)(hex:o.ExactSet)(hd:o.data= .set es ep t){e1:Array (Int×Value)}{t1:SetTable}{S':K->Bool}(el:ElemsOf knd e1.toList)(mem:∀k,S' k=true↔∃e∈e1.toList,knd.is k e.2=true)(sz:e1.size<scanBound)(fit:t1.fits e1.size=true)(ok:TOk t1 b)(dis:Dis knd e1.toList){wd:Bool}{R:Option Bool->Shared->Prop}(q:∀h',SameBut a s.heap h'->SetU knd h' a S' e1.size b->R (some true) {s with heap:=h'}):
  wpAny (model prog w) A (do
   storeSet a e1 t1
   if (!wd && t1.tooFull)=true then do
    g (relayAll t1 e1 (SetTable.grown e1.size)).2.2
    storeSet a (relayAll t1 e1 (SetTable.grown e1.size)).1 (relayAll t1 e1 (SetTable.grown e1.size)).2.1
    pure (some true)
   else pure (some true)) R E s:=by
 refine Gt (wpAny_storeSet_of ho hd ?_ (fits_of_scanBound sz));obtain⟨ho1,u1⟩:=SetU.put (knd:=knd) ho hex hd el mem sz fit ok dis;have sb1:=SameBut.update s.heap a (Obj.putSet e1 t1);split
 ·have pm:=relayAll_perm t1 e1 (SetTable.grown e1.size);have ft:=relayAll_fits t1 e1 (SetTable.grown e1.size);have tk:=relay_ok ok e1 (SetTable.grown e1.size);generalize relayAll t1 e1 (SetTable.grown e1.size)=Rl at pm ft tk ⊢;obtain⟨e2,t2,gv⟩:=Rl;dsimp only at pm ft tk ⊢;have sz2:e2.size=e1.size:=by rw[<-length_toList,pm.length_eq,length_toList]
  have mem2:∀k,S' k=true↔∃e∈e2.toList,knd.is k e.2=true:=λk=>by
   rw[mem k];exact⟨λ⟨e,he,z⟩=>⟨e,pm.mem_iff.mpr he,z⟩,λ⟨e,he,z⟩=>⟨e,pm.mem_iff.mp he,z⟩⟩
  refine Gt (hg _ _ _ (Gt (wpAny_storeSet_of ho1 rfl ?_ (fits_of_scanBound (by omega)))));have u2:=(SetU.put (knd:=knd) ho1 hex rfl (el.perm pm) mem2 (by omega) ft tk (dis.perm pm)).2;rw[sz2] at u2;exact Qa0 (q _ (sb1.trans (SameBut.update _ a _)) u2)
 ·exact Qa0 (q _ sb1 u1)
theorem add_ok{a:Addr}{S:K->Bool}{n:Nat}{b:Bool}{k:K}{x:Value}{Q:Bool->Shared->Prop}(hk:knd.is k x=true)(hx:x.scannable=true)(hS:SetU knd s.heap a S n b)(hr:n+1<scanBound)(q:∀h',SameBut a s.heap h'->SetU knd h' a (λk'=>S k'||decide (k'=k)) (if S k then n else n+1) b->Q (!S k) {s with heap:=h'}):wpAny (model prog w) A (setAddHashed a x (knd.hash k)) Q E s:=by
 obtain⟨o,es,ep,t,ho,hex,hd,el,mem,sz,fit,hn,ok,dis⟩:=hS;unfold setAddHashed setAddHashedIn;refine Qb9 (Gt (wpAny_setState_of ho hd fit ?_));dsimp only;rw[byScan_of hx sz el];simp only[↓reduceIte];unfold setAddByScan;refine Gt (Gt (Qd5 (Gt (wpAny_setScan_of hk ho hd fit el ?_))));cases fi:List.findIdx? (λe=>knd.is k e.2) es.toList with
 |some j=>
  dsimp only;obtain⟨hj,pj,_⟩:=List.findIdx?_eq_some_iff_getElem.mp fi;have Sk:S k=true:=(mem k).mpr ⟨es.toList[j],getElem_mem hj,pj⟩;refine Qa0 (Qa0 ?_);have z:=q s.heap (SameBut.refl a s.heap) ⟨o,es,ep,t,ho,hex,hd,el,λk'=>by
   rw[Bool.or_eq_true,Qa4,<-mem k'];constructor
   ·rintro(h|rfl)
    ·exact h
    ·exact Sk
   ·exact .inl,sz,fit,by rw[Sk];exact hn,ok,dis⟩
  rw[Sk] at z;have es:s={s with heap:=s.heap}:=by cases s;rfl
  rw[es];exact z
 |none=>
  dsimp only;have Sk:S k=false:=by
   cases c:S k with
   |false=>rfl
   |true=>
    obtain⟨e,he,z⟩:=(mem k).mp c;have:=List.findIdx?_eq_none_iff.mp fi e he;rw[z] at this;cases this
  have gw:∀(c:Bool) {s1:Shared} {Q1:Unit->Shared->Prop},Q1 () s1->wpAny (model prog w) A (match c with|true=>rule "set.scan.the-table-gave-way"|false=>pure ()) Q1 E s1:=λc s1 Q1 h1=>by
   cases c
   ·exact Qa0 h1
   ·exact Qd5 h1
  have pm:=layNew_perm t es (knd.hash k) x;have ft:=layNew_fits t es (knd.hash k) x;have tk:=Yr ok es (knd.hash k) x;generalize layNew t es (knd.hash k) x=L at pm ft tk ⊢;obtain⟨e1,t1,wd,gv⟩:=L;dsimp only at pm ft tk ⊢;rw[Array.toList_push] at pm;have el1:ElemsOf knd e1.toList:=(el.push hk hx).perm pm;have mem1:=mem_push_iff hk mem pm;have dis1:Dis knd e1.toList:=(dis.push mem hk Sk).perm pm;have sz1:e1.size=n+1:=by rw[<-length_toList,pm.length_eq,Qa3,length_toList,hn];rfl
  have fin:∀h',SameBut a s.heap h'->SetU knd h' a (λk'=>S k'||decide (k'=k)) e1.size b->Q true {s with heap:=h'}:=λh' sb u=>by
   have z:=q h' sb;rw[Sk] at z;rw[sz1] at u;exact z u
  refine Gt (gw _ ?_);split
  ·refine Gt ?_;rw[hashByValue_scannable 8 hx];refine Qa0 ?_;refine R8 (b:=b) ?_ ho hex hd el1 mem1 (by omega) ?_ ?_ dis1 λh' sb u=> ?_
   ·intro c s1 Q1 h1;cases c<;> first|exact Qa0 h1|exact Qd5 h1
   ·split
    ·exact ft
    ·exact SetTable.fits_plain_off ft
   ·split
    ·exact tk
    ·exact tk.plain
   ·dsimp only;exact Qa0 (fin h' sb u)
  ·refine Gt (Qa0 ?_);simp only[↓reduceIte];refine R8 (b:=b) ?_ ho hex hd el1 mem1 (by omega) ft tk dis1 λh' sb u=> ?_
   ·intro c s1 Q1 h1;cases c<;> first|exact Qa0 h1|exact Qd5 h1
   ·dsimp only;exact Qa0 (fin h' sb u)
end
end StT
namespace StT
open PySem PyProof.Rows
section
variable{prog:Program}{w:World}{K:Type}[DecidableEq K]{knd:KeyKind prog w K}{A:Around}{E:Value->Shared->Prop}{s:Shared}
theorem SetU.at{h h':Heap}{a:Addr}{S:K->Bool}{n:Nat}{b:Bool}(x:SetU knd h a S n b)(f:∀o,h.get? a=some o->h'.get? a=some o):SetU knd h' a S n b:=let ⟨o,es,ep,t,ho,r⟩:=x;⟨o,es,ep,t,f o ho,r⟩
def Mh(val:Nat->K)(i:Nat)(k:K):Bool:=(List.range i).any λj=>decide (k=val j)
theorem met_succ(val:Nat->K)(i:Nat)(k:K):Mh val (i+1) k=(Mh val i k||decide (k=val i)):=by
 unfold Mh;rw[range_succ,List.any_append];simp
end
section
variable{prog:Program}{w:World}{K:Type}[DecidableEq K]{knd:KeyKind prog w K}{A:Around}{R:Result->Shared->Prop}{I:Addr}{fp wr:List Addr}{G:Array GenState->Array GenState->Prop}{n:Nat}{P:Nat->Value->Prop}{St:Nat->Shared->Prop}
theorem Qy(W:WalksS prog w A.in1 I fp wr G n P St){T:Addr}(hT:T ∉ fp){val:Nat->K}(hv:∀i v,P i v->knd.is (val i) v=true/\v.scannable=true)(hb:n+1<scanBound){b:Bool}:
  ∀(k i:Nat) (s:Shared),n - i=k->i<=n->St i s->(∃m,m<=i/\SetU knd s.heap T (Mh val i) m b)->
   (∀s',Moved (T::wr) G s s'->(∃m,m<=n/\SetU knd s'.heap T (Mh val n) m b)->R (.ok (.ret .none)) s')->
   codeAny (model prog w) A (.builtin "set.update.loop" ⟨[.ref T,.ref I],[]⟩) R s
 |0,i,s,hk,hi,st,⟨m,mi,u⟩,q=>by
  obtain rfl:i=n:=by omega
  have nw:T ∉ wr:=λz=>hT (W.sub _ z);refine Qe4 F.entry_set_update_loop ?_;rw[Around.under_plainId F.plain_set_update_loop _];refine Gt (m:=pyNext (.ref I)) (W.done s _ _ st λs' mv=> ?_);exact Qa0 (q s' (mv.mono λx hx=>Qa8 _ hx) ⟨m,mi,u.at λo e=>mv.heap T o nw e⟩)
 |k+1,i,s,hk,hi,st,⟨m,mi,u⟩,q=>by
  have lt:i<n:=by omega
  have nw:T ∉ wr:=λz=>hT (W.sub _ z);refine Qe4 F.entry_set_update_loop ?_;rw[Around.under_plainId F.plain_set_update_loop _];refine Gt (m:=pyNext (.ref I)) (W.item i s _ _ lt st λv s' pv st' mv=> ?_);obtain⟨hk1,hk2⟩:=hv i v pv;have u':=u.at (h':=s'.heap) λo e=>mv.heap T o nw e;refine Gt (m:=holding [v] (setAdd T v)) (Qb9 ?_);unfold setAdd;refine Qb9 (Gt (knd.pyHash hk1 ?_));refine add_ok (s:={s' with toks:=s'.toks+1}) hk1 hk2 u' (by omega) λh' sb u2=> ?_;have mv2:Moved (T::wr) G s {s' with heap:=h',toks:=s'.toks+1}:=(mv.mono λx hx=>Qa8 _ hx).then_heap (le_succ _) λx o hx e=>by
   rw[sb.2 x λz=>hx (z▸Qa9)];exact e
  refine Qa0 ⟨plainId_quiet F.plain_set_update_loop _,Qy W hT hv hb k (i+1) _ (by omega) lt (W.frame _ s' _ _ st' (le_succ _) λx hx o e=> ?_) ⟨if Mh val i (val i) then m else m+1,?_,u2.congr (λk'=>(met_succ val i k').symm) rfl⟩ λs'' m'' u''=>q s'' (Moved.trans W.gtrans mv2 m'') u''⟩
  ·rw[sb.2 x λz=>hT (z▸hx)];exact e
  ·split<;> omega
end
section
variable{prog:Program}{w:World}{K:Type}[DecidableEq K]{knd:KeyKind prog w K}{A:Around}{E:Value->Shared->Prop}{s:Shared}
def byT(w:World):Bool:=w.params.followText "set-order"
theorem set_new(a:Value){Q1:Value->Shared->Prop}(q:Q1 (.ref s.heap.objs.size) {s with heap:=s.heap.push {cls:= .type "set",dict:=none,data:= .set #[] 0 (.fresh 0 0 (!byT w))}}):
  codeAny (model prog w) A (.call (.builtin "set.__new__") ⟨[.type "set",a],[]⟩) (wants Q1 E) s:=by
 refine codeAny_call_builtin F.plain_set_new F.entry_set_new (wpAny_of_eq (F.newCall_set_1 a) ?_);unfold Builtin.«set.__new__» Builtin.Frozenset.newClass;have hsub:=sub_set_self;obtain⟨hp,g,d,tk,os⟩:=s;dsimp only
 wp_walk
 refine wpAny_askSetting (Qa0 ?_);dsimp only;simp only[newObj];exact Gt (wpAny_alloc (Qa0 (Qa0 q)))
end
section
variable{prog:Program}{w:World}{K:Type}[DecidableEq K]{knd:KeyKind prog w K}{A:Around}{E:Value->Shared->Prop}{s:Shared}
theorem Ni{l:Addr}{items:Array Value}{Q:Value->Shared->Prop}{val:Nat->K}(hh:A.handled=none)(hl:s.heap.IsList l items)(hv:∀i v,items[i]? =some v->knd.is (val i) v=true/\v.scannable=true)(hb:items.size+1<scanBound)(q:∀(h':Heap) (tk m:Nat),m<=items.size->SetU knd h' s.heap.objs.size (Mh val items.size) m (!byT w)->(∀b o,s.heap.get? b=some o->h'.get? b=some o)->Q (.ref s.heap.objs.size) {s with heap:=h',toks:=tk}):wpAny (model prog w) A (call (.type "set") [.ref l]) Q E s:=by
 have cs:=F.called_set;obtain⟨c,tl,m1⟩:=cs.mro;have m2:=cs.made;have m3:=cs.sub;refine wpAny_call (codeAny_of_tree (Qa0 ⟨Code.quiet_builtin _ (by decide+kernel),Qe4 F.entry_type_call ?_⟩));rw[Around.under_plain (weight_type_call_type "set" [.ref l] []) rfl];have m4:=cs.notType;have m5:=cs.canCreate;have m6:=F.typeCall_set_1 (.ref l)
 repeat (any_goals (first|assumption|wp_step))
 have hN:(s.heap.push {cls:= .type "set",dict:=none,data:= .set #[] 0 (.fresh 0 0 (!byT w))}).get? s.heap.objs.size=some {cls:= .type "set",dict:=none,data:= .set #[] 0 (.fresh 0 0 (!byT w))}:=Qa5 _ rfl;refine Qg5 (set_new (.ref l) (E:=E) (Q1:=λv t=>v= .ref s.heap.objs.size/\t={s with heap:=s.heap.push {cls:= .type "set",dict:=none,data:= .set #[] 0 (.fresh 0 0 (!byT w))}}) ⟨rfl,rfl⟩) λr1 t1 z1=> ?_;rcases r1 with e1|f1
 ·exact z1
 cases f1
 case ret v1=>
  obtain⟨rfl,rfl⟩:=z1;have tS:TypeIs {s with heap:=s.heap.push {cls:= .type "set",dict:=none,data:= .set #[] 0 (.fresh 0 0 (!byT w))}} (.ref s.heap.objs.size) "set":=⟨_,hN,rfl⟩
  have m7:=cs.init.lookup;have m8:=cs.init.bind (.ref s.heap.objs.size)
  repeat (any_goals (first|assumption|wp_step))
  refine Qg5 (codeAny_call_builtin (R:=wants (λv t=>v= .none/\∃h' tk m,t={s with heap:=h',toks:=tk}/\m<=items.size/\SetU knd h' s.heap.objs.size (Mh val items.size) m (!byT w)/\∀b o,s.heap.get? b=some o->h'.get? b=some o) E) cs.init.plain F.entry_set_init (check_set_init_1 tS ?_)) λr2 t2 z2=> ?_
  ·obtain⟨⟨c0,d0,da0,s0⟩,g0,hc0,n0,hd0⟩:=id hl;simp only at hc0 hd0;subst hc0;subst hd0;have g1:(s.heap.push {cls:= .type "set",dict:=none,data:= .set #[] 0 (.fresh 0 0 (!byT w))}).get? l=some {cls:= .type "list",dict:=d0,data:= .seq items n0,slots:=s0}:=Lt _ g0;have a1:=F.sub_list_set;have a2:=F.sub_list_frozenset;have a3:(Value.type "list"==Value.type "dict")=false:=by decide
   have hl1:(s.heap.push {cls:= .type "set",dict:=none,data:= .set #[] 0 (.fresh 0 0 (!byT w))}).IsList l items:=⟨_,g1,rfl,n0,rfl⟩
   unfold Builtin.«set.__init__» noKeywords Builtin.Frozenset.updateFrom;generalize hI:pyIter=PI
   wp_walk
   subst hI;refine wpAny_pyIter_list hl1 (Gt (wpAny_runValue ?_));have lS:l<s.heap.objs.size:=Qa7 g0;have h3:A.in1.in1.in1.handled=none:=by simp[hh]
   have nI:l≠(s.heap.push {cls:= .type "set",dict:=none,data:= .set #[] 0 (.fresh 0 0 (!byT w))}).objs.size:=by
    rw[size_push];exact ne_of_lt (Qe1 lS)
   have nS:s.heap.objs.size ∉ [(s.heap.push {cls:= .type "set",dict:=none,data:= .set #[] 0 (.fresh 0 0 (!byT w))}).objs.size,l]:=by
    rw[size_push];simp only[Qa6,not_mem_nil,or_false,not_or];exact⟨ne_of_lt (Nat.lt_succ_self _),ne_of_gt lS⟩
   refine Qy ((Walks.list h3 _ l nI items).toS) nS (val:=val) (b:= !byT w) hv hb (items.size - 0) 0 _ (by omega) (Qc5 _) ⟨⟨_,Qa5 _ rfl,rfl,rfl⟩,hl1.push _⟩ ⟨0,le_refl _,?_⟩ λt mv ⟨m,mi,u⟩=> ?_
   ·exact⟨_,#[],0,_,Lt _ hN,⟨rfl,rfl,rfl⟩,rfl,λe he=>(by simp at he),λk=>(by simp[Mh]),by unfold scanBound;decide,rfl,rfl,TOk.fresh _,Pairwise.nil⟩
   ·obtain⟨h',g',d',tk',os'⟩:=t;obtain rfl:g'=s.gens:=mv.gens;obtain rfl:d'=s.drawn:=mv.drawn;obtain rfl:os'=s.os:=mv.os;refine Qa0 (Qa0 ⟨rfl,h',tk',m,rfl,mi,u,λb o e=> ?_⟩);have lb:b<s.heap.objs.size:=Qa7 e;refine mv.heap b o ?_ (Lt _ (Lt _ e));rw[size_push];simp only[Qa6,not_mem_nil,or_false,not_or];exact⟨ne_of_lt lb,ne_of_lt (Qe1 lb)⟩
  ·rcases r2 with e2|f2
   ·exact z2
   cases f2
   case ret v2=>
    obtain⟨rfl,h',tk,m,rfl,mi,u,kp⟩:=z2
    repeat (any_goals (first|assumption|wp_step))
    exact q h' tk m mi u kp
   all_goals exact z2.elim
 all_goals exact z1.elim
end
end StT
namespace StT
open PySem PyProof.Rows L2
theorem Wc{prog:Program}{w:World}:∀{l:List (Int×Value)},ElemsOf (intKind prog w) l->Dis (intKind prog w) l->∃ks:List Int,Vals (ks.map V.int) (l.map (·.2))/\ks.Nodup/\∀k,k∈ks↔∃e∈l,(intKind prog w).is k e.2=true
 |[],_,_=>⟨[],.nil,nodup_nil,λk=>by simp⟩
 |e::l,h,d=>by
  obtain⟨ks,v,nd,mem⟩:=Wc (l:=l) (λx hx=>h x (Qa8 _ hx)) (Pairwise.tail d);obtain⟨⟨k,hk,_⟩,_⟩:=h e (Qa9 ..);obtain⟨t,et⟩:=Value.isInt_shape hk;refine⟨k::ks,.cons ⟨t,et⟩ v,Qd3.mpr ⟨λhm=> ?_,nd⟩,λk'=> ?_⟩
  ·obtain⟨e',he',z⟩:=(mem k).mp hm;exact List.rel_of_pairwise_cons d he' k ⟨hk,z⟩
  ·rw[Qa6,mem k'];constructor
   ·rintro(rfl|⟨e',he',z⟩)
    ·exact⟨e,Qa9 ..,hk⟩
    ·exact⟨e',Qa8 _ he',z⟩
   ·rintro⟨e',he',z⟩;rcases Qa6.mp he' with rfl|he'
    ·exact .inl ((intKind prog w).inj e'.2 k' k z hk)
    ·exact .inr ⟨e',he',z⟩
end StT
namespace StT
open PySem PySem.W PyProof.Rows L2 Srt
theorem vals_k{ks:List Int}{vs:List Value}(v:Vals (ks.map V.int) vs){i:Nat}(hi:i<ks.length):∃t,vs.getD i Value.none= .int (ks.getD i 0) t:=by
 obtain⟨a,ha,t,rfl⟩:=Vals.get v (i:=i) (x:=V.int (ks.getD i 0)) (by simp[hi]);exact⟨t,by simp[getD,ha]⟩
end StT
namespace L2
open PySem PySem.W PyProof.Rows StT
section
variable{X:Cx}{e:Expr}{te:TE}{p p2 pos pos2:Pos}
theorem met_mem{ns:List Int}{k:Int}:Mh (λi=>ns.getD i 0) ns.length k=true↔k∈ns:=by
 unfold Mh;rw[List.any_eq_true];constructor
 ·rintro⟨j,hj,h⟩;have hj:=mem_range.mp hj;rw[Qa4] at h;rw[h];show ns.getD j 0∈ns;rw[Qb5,getElem?_eq_getElem hj];exact getElem_mem hj
 ·intro h;obtain⟨j,hj,rfl⟩:=List.mem_iff_getElem.mp h;refine⟨j,mem_range.mpr hj,?_⟩;rw[Qa4];show ns[j]=ns.getD j 0;rw[Qb5,getElem?_eq_getElem hj];rfl
end
end L2
namespace L2
open PySem PySem.W PySem.Spec PyProof.Rows StT Srt
section
variable{X:Cx}{e:Expr}{te:TE}{p p2 pos pos2:Pos}
inductive Qq(H1:Hp)(Q:VK)(x:V):Prop
 |mk (a:Addr) (ns:List Int):(x= .ref a)->(H1 a=some (.lst (ns.map V.int)))->(ns.length<64)->(∀ms:List Int,ms.Nodup->(∀x,x∈ms↔x∈ns)->Q (.int (ms.length:Nat)) H1)->Qq H1 Q x
def tLenSet(te:TE):TE:=λσ H Q=>te σ H λx H1=>Qq H1 Q x
theorem Xo(hc:X.calm=true)(he0:PE X e te)(hg:Gl X "len")(hm:X.mg "len"=none)(hg2:Gl X "set")(hm2:X.mg "set"=none)(hs1:starEach [.Call (.Name "set" p2) [e] [] pos2] X.env=[(false,eval (.Call (.Name "set" p2) [e] [] pos2) X.env)]:=by rfl)(hs2:starEach [e] X.env=[(false,eval e X.env)]:=by rfl):
  PE X (.Call (.Name "len" p) [.Call (.Name "set" p2) [e] [] pos2] [] pos) (tLenSet te):=by
 intro pins s σ H Q I h;refine Qf1 (Dz I hg hm (show bootBuiltins "len"=some (.builtin "len") by decide+kernel) ?_ (by decide) (by decide));refine PyProof.Rows.callWith_builtin1 (rest:=[]) ?_ hs1 rfl;rw[hs1];show wpAny _ _ (spliced ((false,eval (.Call (.Name "set" p2) [e] [] pos2) X.env)::backTo pos (starEach [] X.env))) _ _ s;refine Calls.spliced_cons ?_;refine Qf1 (Dz I hg2 hm2 (show bootBuiltins "set"=some (.type "set") by decide+kernel) ?_ (by decide) (by decide));refine PyProof.Rows.callWith_type1 (rest:=[]) ?_ hs2 rfl;rw[hs2];show wpAny _ _ (spliced ((false,eval e X.env)::backTo pos2 (starEach [] X.env))) _ _ s;refine Calls.spliced_cons (thn (he0 pins s σ H _ I h) λu s1 ⟨x,H1,I1,r1,q1⟩=>Calls.spliced_nil ?_);obtain⟨a,ns,rfl,hq,h64,q⟩:=q1;cases r1;have hh:X.A.handled=none:=I1.ok.hd hc;have vi:∀{its:List Value},Vals (ns.map V.int) its->∀i v,its.toArray[i]? =some v->(intKind X.prog X.w).is (ns.getD i 0) v=true/\v.scannable=true:=λ{its} rv i v hv=>by
  have le:=rv.length;rw[If] at le;rw[List.getElem?_toArray] at hv;have hi:=(List.getElem?_eq_some_iff.mp hv).1;obtain⟨t,e⟩:=vals_k rv (i:=i) (by omega);rw[Qb5,hv] at e;have e:v= .int (ns.getD i 0) t:=e;rw[e];exact⟨intKind_is _ _ _ _,rfl⟩
 obtain⟨its,rv,ht,hz⟩:=I1.list (SqL.of hq);have le:=rv.length;rw[If] at le;refine Ni (knd:=intKind X.prog X.w) (val:=λi=>ns.getD i 0) hh ht.isList (vi rv) (by rw[size_toArray];unfold scanBound;omega) λh' tk m mi u kp=> ?_;refine Calls.spliced_nil ?_;have ez:its.toArray.size=ns.length:=by rw[size_toArray];exact le.symm
 rw[ez] at mi u;obtain⟨o,es,ep,t,ho,hex,hd,el,mem,sz,fit,hn,ok,dis⟩:=u;obtain⟨ks,kv,knd,kmem⟩:=Wc el dis;have kl:ks.length=es.size:=by
  have:=kv.length;simp only[If,length_toList] at this;assumption
 refine call_len_set (s:={s1 with heap:=h',toks:=tk}) ho hex hd fit (by omega) ?_;refine⟨.int (es.size:Nat),H1,?_,⟨_,rfl⟩,?_⟩
 ·exact(I1.kept kp).tok _
 ·rw[<-kl];exact q ks knd λx=>((kmem x).trans (mem x).symm).trans met_mem
end
end L2
namespace Wk
open PySem L2
noncomputable def Ge(P:List T4)(v:Nat):Bool:= @decide (∀u,u<v->¬Reach P u v) (Classical.propDecidable _)
noncomputable def Kh(N:Nat)(P:List T4):Nat:=(List.range N).countP (Ge P)
theorem least_iff{P:List T4}{v:Nat}:Ge P v=true↔∀u,u<v->¬Reach P u v:=by
 unfold Ge;exact @decide_eq_true_iff _ (Classical.propDecidable _)
theorem Jg{N:Nat}{P R:List T4}(h:∀a b,a<N->b<N->(Reach P a b↔Reach R a b)):Kh N P=Kh N R:=by
 unfold Kh;refine countP_congr λv hv=> ?_;have hv:=mem_range.mp hv;rw[least_iff,least_iff];exact⟨λq u hu r=>q u hu ((h u v (by omega) hv).mpr r),λq u hu r=>q u hu ((h u v (by omega) hv).mp r)⟩
theorem cls_nil(N:Nat):Kh N []=N:=by
 unfold Kh;have:∀v∈List.range N,Ge [] v=true:=λv _=>by
  rw[least_iff];rintro u hu ⟨x,hx⟩;cases hx with
  |nil=>omega
  |snoc _ q=>simp[Bp] at q
 rw[List.countP_eq_length.mpr this,Qe0]
theorem Ii{P:List T4}:∀v:Nat,∃m,m<=v/\Reach P m v/\Ge P m=true:=by
 intro v
 induction v using Nat.strongRecOn with
 |_ v ih=>
  by_cases h:Ge P v=true
  ·exact⟨v,le_refl _,.refl,h⟩
  ·rw[least_iff] at h;simp only[Classical.not_forall,Classical.not_not] at h;obtain⟨u,hu,r⟩:=h;obtain⟨m,hm,rm,lm⟩:=ih u hu;exact⟨m,by omega,rm.trans r,lm⟩
theorem Fe{P:List T4}{m n:Nat}(hm:Ge P m=true)(hn:Ge P n=true)(r:Reach P m n):m=n:=by
 rw[least_iff] at hm hn;rcases Nat.lt_trichotomy m n with h|h|h
 ·exact absurd r (hn m h)
 ·exact h
 ·exact absurd r.symm (hm n h)
theorem reach_snoc{P:List T4}{t:T4}{a b:Nat}:Reach (P++[t]) a b↔Reach P a b\/(Reach P a t.2.1/\Reach P t.2.2.1 b)\/(Reach P a t.2.2.1/\Reach P t.2.1 b):=by
 have mono:∀{a b},Reach P a b->Reach (P++[t]) a b:=λr=>r.mono λx hx=>mem_append_left _ hx;have tie:Reach (P++[t]) t.2.1 t.2.2.1:= .step (Gf (mem_append_right _ (mem_singleton.mpr rfl)));constructor
 ·rintro⟨x,hx⟩
  induction hx with
  |nil=>exact .inl .refl
  | @snoc ws b c n _ q ih=>
   obtain⟨t',ht',_,hh⟩:=Pt q;rcases mem_append.mp ht' with ht'|ht'
   ·have st:Reach P b c:=by
     rcases hh with⟨rfl,rfl⟩|⟨rfl,rfl⟩
     ·exact .step (Gf ht')
     ·exact(Reach.step (Gf ht')).symm
    rcases ih with h|⟨h1,h2⟩|⟨h1,h2⟩
    ·exact .inl (h.trans st)
    ·exact .inr (.inl ⟨h1,h2.trans st⟩)
    ·exact .inr (.inr ⟨h1,h2.trans st⟩)
   ·rw[mem_singleton.mp ht'] at hh;rcases hh with⟨e1,e2⟩|⟨e1,e2⟩
    ·subst e1;subst e2;rcases ih with h|⟨h1,h2⟩|⟨h1,h2⟩
     ·exact .inr (.inl ⟨h,.refl⟩)
     ·exact .inr (.inl ⟨h1,.refl⟩)
     ·exact .inl h1
    ·subst e1;subst e2;rcases ih with h|⟨h1,h2⟩|⟨h1,h2⟩
     ·exact .inr (.inr ⟨h,.refl⟩)
     ·exact .inl h1
     ·exact .inr (.inr ⟨h1,.refl⟩)
 ·rintro(h|⟨h1,h2⟩|⟨h1,h2⟩)
  ·exact mono h
  ·exact((mono h1).trans tie).trans (mono h2)
  ·exact((mono h1).trans tie.symm).trans (mono h2)
theorem R4{N:Nat}{P:List T4}{t:T4}(h:Reach P t.2.1 t.2.2.1):Kh N (P++[t])=Kh N P:=by
 refine Jg λa b _ _=> ?_;rw[reach_snoc];constructor
 ·rintro(q|⟨q1,q2⟩|⟨q1,q2⟩)
  ·exact q
  ·exact(q1.trans h).trans q2
  ·exact(q1.trans h.symm).trans q2
 ·exact .inl
theorem Ly{p q:Nat->Bool}{x N:Nat}(hx:x<N)(px:p x=true)(h:∀v,v<N->(q v=true↔p v=true/\v≠x)):(List.range N).countP q+1=(List.range N).countP p:=by
 induction N with
 |zero=>omega
 |succ N ih=>
  rw[range_succ,countP_append,countP_append,List.countP_singleton,List.countP_singleton];by_cases e:x=N
  ·subst e;have hq:q x=false:=by
    cases z:q x with
    |false=>rfl
    |true=>exact absurd rfl ((h x hx).mp z).2
   have:(List.range x).countP q=(List.range x).countP p:=countP_congr λv hv=>by
    have hv:=mem_range.mp hv;rw[h v (by omega)];exact⟨λz=>z.1,λz=>⟨z,by omega⟩⟩
   rw[this,hq,px];simp
  ·have:=ih (by omega) λv hv=>h v (by omega);have e2:q N=p N:=by
    rw[Bool.eq_iff_iff,h N (by omega)];exact⟨λz=>z.1,λz=>⟨z,Ne.symm e⟩⟩
   rw[e2];omega
theorem Ru{N:Nat}{P:List T4}{t:T4}(h1:t.2.1<N)(h2:t.2.2.1<N)(h:¬Reach P t.2.1 t.2.2.1):Kh N (P++[t])+1=Kh N P:=by
 obtain⟨m1,l1,r1,k1⟩:=Ii (P:=P) t.2.1;obtain⟨m2,l2,r2,k2⟩:=Ii (P:=P) t.2.2.1;have hne:m1≠m2:=λe=>h (r1.symm.trans (e▸r2));have mono:∀{a b},Reach P a b->Reach (P++[t]) a b:=λr=>r.mono λx hx=>mem_append_left _ hx;have tie:Reach (P++[t]) t.2.1 t.2.2.1:= .step (Gf (mem_append_right _ (mem_singleton.mpr rfl)));have r12:Reach (P++[t]) m1 m2:=((mono r1).trans tie).trans (mono r2).symm;refine Ly (x:=max m1 m2) (by omega) ?_ λv hv=> ?_
 ·rcases Nat.le_total m1 m2 with q|q
  ·rw[Nat.max_eq_right q];exact k2
  ·rw[Nat.max_eq_left q];exact k1
 constructor
 ·intro q;rw[least_iff] at q;refine⟨least_iff.mpr λu hu r=>q u hu (mono r),λe=> ?_⟩;rcases Nat.lt_or_gt_of_ne hne with z|z
  ·rw[Nat.max_eq_right (by omega)] at e;exact q m1 (by omega) (e▸r12)
  ·rw[Nat.max_eq_left (by omega)] at e;exact q m2 (by omega) (e▸r12.symm)
 ·rintro⟨q,hx⟩;have q':=q;rw[least_iff] at q ⊢;intro u hu r;rcases reach_snoc.mp r with z|⟨z1,z2⟩|⟨z1,z2⟩
  ·exact q u hu z
  ·-- v is the least of the other's class,u of the one's
   have ev:m2=v:=Fe k2 q' (r2.trans z2);have:m1<=u:=by
    obtain⟨m,lm,rm,km⟩:=Ii (P:=P) u;have:m1=m:=Fe k1 km (r1.trans (z1.symm.trans rm.symm));omega
   omega
  ·have ev:m1=v:=Fe k1 q' (r1.trans z2);have:m2<=u:=by
    obtain⟨m,lm,rm,km⟩:=Ii (P:=P) u;have:m2=m:=Fe k2 km (r2.trans (z1.symm.trans rm.symm));omega
   omega
end Wk
namespace L2
open PySem PySem.Spec PyProof.Rows
def Flt:V->V->Bool
 | .non,.non=>true
 | .non,.bl _=>true
 | .non,.int _=>true
 | .non,.str _=>true
 | .bl _,.non=>true
 | .bl _,.bl _=>true
 | .bl _,.str _=>true
 | .int _,.non=>true
 | .int _,.int _=>true
 | .int _,.str _=>true
 | .str _,.non=>true
 | .str _,.bl _=>true
 | .str _,.int _=>true
 | .str _,.str _=>true
 |_,_=>false
def Eqs(K:Frag)(H:Hp):Nat->V->V->Bool->Prop
 |0,x,y,b=>Flt x y=true/\b=decide (x=y)
 |n+1,x,y,b=>(Flt x y=true/\b=decide (x=y))\/
  (∃(a c:Addr) (xs ys:List V) (e:Nat->Bool),x= .ref a/\y= .ref c/\((SqT K H a xs/\SqT K H c ys)\/(SqL K H a xs/\SqL K H c ys))/\(∀(j:Nat) p q,xs[j]? =some p->ys[j]? =some q->Eqs K H n p q (e j))/\b=((List.range (min xs.length ys.length)).all e && xs.length==ys.length))\/
  (∃(a:Addr) (xs:List V),x= .ref a/\y= .non/\SqT K H a xs/\b=false)\/
  (∃(a:Addr) (xs:List V),x= .non/\y= .ref a/\SqT K H a xs/\b=false)
theorem Eqs.flat{K:Frag}{H:Hp}{n:Nat}{x y:V}(h:Flt x y=true):Eqs K H n x y (decide (x=y)):=by
 cases n with
 |zero=>exact⟨h,rfl⟩
 |succ n=>exact .inl ⟨h,rfl⟩
theorem all_dec{α:Type}[DecidableEq α]{xs ys:List V}{ds es:List α}(l1:ds.length=xs.length)(l2:es.length=ys.length):((List.range (min xs.length ys.length)).all (λj=>decide (ds[j]? =es[j]?)) && xs.length==ys.length)=decide (ds=es):=by
 by_cases h:xs.length=ys.length
 ·rw[Bool.eq_iff_iff,Qf6,List.all_eq_true,Qa4];constructor
  ·rintro⟨ha,_⟩;refine ext_getElem? λi=> ?_;by_cases hi:i<xs.length
   ·exact Qc2 (ha i (mem_range.mpr (by omega)))
   ·rw[getElem?_eq_none (by omega),getElem?_eq_none (by omega)]
  ·rintro rfl;exact⟨λj _=>decide_eq_true rfl,by simpa using h⟩
 ·have:(xs.length==ys.length)=false:=by simpa using h
  rw[this,Bool.and_false,decide_eq_false λe=>h (by rw[<-l1,<-l2,e])]
theorem Eqs.seq{K:Frag}{H:Hp}{n:Nat}{a c:Addr}{xs ys:List V}{α:Type}[DecidableEq α]{ds es:List α}(hh:(SqT K H a xs/\SqT K H c ys)\/(SqL K H a xs/\SqL K H c ys))(l1:ds.length=xs.length)(l2:es.length=ys.length)(h:∀(j:Nat) p q d e,xs[j]? =some p->ys[j]? =some q->ds[j]? =some d->es[j]? =some e->Eqs K H n p q (decide (d=e))):Eqs K H (n+1) (.ref a) (.ref c) (decide (ds=es)):=by
 refine .inr (.inl ⟨a,c,xs,ys,λj=>decide (ds[j]? =es[j]?),rfl,rfl,hh,λj p q hp hq=> ?_,(all_dec l1 l2).symm⟩);have j1:j<ds.length:=by rw[l1];exact(List.getElem?_eq_some_iff.mp hp).1
 have j2:j<es.length:=by rw[l2];exact(List.getElem?_eq_some_iff.mp hq).1
 have:=h j p q ds[j] es[j] hp hq (getElem?_eq_getElem j1) (getElem?_eq_getElem j2);show Eqs K H n p q (decide (ds[j]? =es[j]?));rw[getElem?_eq_getElem j1,getElem?_eq_getElem j2];have e:decide (some ds[j]=some es[j])=decide (ds[j]=es[j]):=by
  rw[Bool.eq_iff_iff,Qa4,Qa4];exact⟨λh=>Option.some.inj h,λh=>by rw[h]⟩
 rw[e];exact this
section
variable{X:Cx}{pins:List (Addr×Obj)}{σ:St}{H:Hp}{s:Shared}
theorem Rz(I:Inv X pins σ H s):∀(n:Nat) {x:V} {b:Bool},Eqs X.K H n x x b->b=true
 |0,x,b,⟨_,e⟩=>by rw[e,decide_eq_true rfl]
 |n+1,x,b,h=>by
  rcases h with⟨_,e⟩|⟨a,c,xs,ys,e,e1,e2,hh,hj,eb⟩|⟨a,xs,e1,e2,_⟩|⟨a,xs,e1,e2,_⟩
  ·rw[e,decide_eq_true rfl]
  ·rw[e1] at e2;injection e2 with e2;subst e2;have ex:xs=ys:=by
    rcases hh with⟨h1,h2⟩|⟨h1,h2⟩
    ·exact I.tuple_inj h1 h2
    ·exact I.list_inj h1 h2
   subst ex;rw[eb,Qf6];refine⟨List.all_eq_true.mpr λj hj'=> ?_,by simp⟩;have hj':=mem_range.mp hj';have hjx:j<xs.length:=by omega
   exact Rz I n (hj j _ _ (getElem?_eq_getElem hjx) (getElem?_eq_getElem hjx))
  ·rw[e1] at e2;cases e2
  ·rw[e1] at e2;cases e2
theorem flt_at{x y:V}{v u:Value}(h:Flt x y=true)(rx:RelV x v)(ry:RelV y u)(A:Around):SeqAt.EqAt A s v u (decide (x=y)):=by
 have sw:∀{b c:Bool},SeqAt.EqAt A s v u b->b=c->SeqAt.EqAt A s v u c:=λh e=>e▸h;cases x<;> cases y<;> simp only[Flt,Qf9] at h<;> simp only[RelV] at rx ry
 ·subst rx;subst ry;exact SeqAt.EqAt.same _
 ·subst rx;subst ry;exact sw (SeqAt.EqAt.none_bool _) (by simp)
 ·obtain⟨t,rfl⟩:=ry;subst rx;exact sw (SeqAt.EqAt.none_int _ _) (by simp)
 ·obtain⟨t,rfl⟩:=ry;subst rx;exact sw (SeqAt.EqAt.none_str _ _) (by simp)
 ·subst rx;subst ry;exact sw (SeqAt.EqAt.bool_none _) (by simp)
 ·subst rx;subst ry;exact sw (SeqAt.EqAt.bool_bool _ _) (by rw[Bool.eq_iff_iff];simp)
 ·obtain⟨t,rfl⟩:=ry;subst rx;exact sw (SeqAt.EqAt.bool_str _ _ _) (by simp)
 ·obtain⟨t,rfl⟩:=rx;subst ry;exact sw (SeqAt.EqAt.int_none _ _) (by simp)
 ·obtain⟨t,rfl⟩:=rx;obtain⟨t',rfl⟩:=ry;exact sw (SeqAt.EqAt.int_int _ _ _ _) (by rw[Bool.eq_iff_iff];simp)
 ·obtain⟨t,rfl⟩:=rx;obtain⟨t',rfl⟩:=ry;exact sw (SeqAt.EqAt.int_str _ _ _ _) (by simp)
 ·obtain⟨t,rfl⟩:=rx;subst ry;exact sw (SeqAt.EqAt.str_none _ _) (by simp)
 ·obtain⟨t,rfl⟩:=rx;subst ry;exact sw (SeqAt.EqAt.str_bool _ _ _) (by simp)
 ·obtain⟨t,rfl⟩:=rx;obtain⟨t',rfl⟩:=ry;exact sw (SeqAt.EqAt.str_int _ _ _ _) (by simp)
 ·obtain⟨t,rfl⟩:=rx;obtain⟨t',rfl⟩:=ry;exact sw (SeqAt.EqAt.str_str _ _ _ _) (by rw[Bool.eq_iff_iff];simp)
theorem Gc{xs:List V}{its:List Value}(r:Vals xs its){j:Nat}(h:j<its.toArray.size):∃x,xs[j]? =some x/\RelV x its.toArray[j]:=by
 have l:=r.length;have hj:j<xs.length:=by simpa[l] using h
 obtain⟨v,e,rv⟩:=r.get (i:=j) (x:=xs[j]) (by simp[hj]);have w1:its.toArray[j]=v:=by
  have:=(List.getElem?_eq_some_iff.mp e).2;simpa using this
 exact⟨xs[j],by simp[hj],by rw[w1];exact rv⟩
theorem Oa(A:Around):A.in1.units<=A.units+1:=by first|exact le_refl _|exact le_succ _
theorem P4(I:Inv X pins σ H s):∀(n:Nat) {x y:V} {b:Bool} {v u:Value} {A:Around},A.units+n<cLine->Eqs X.K H n x y b->RelV x v->RelV y u->SeqAt.EqAt A s v u b
 |0,x,y,b,v,u,A,_,⟨h,e⟩,rx,ry=>by rw[e];exact flt_at h rx ry A
 |n+1,x,y,b,v,u,A,hu,h,rx,ry=>by
  rcases id h with⟨h,e⟩|⟨a,c,xs,ys,e,rfl,rfl,hh,hj,eb⟩|⟨a,xs,rfl,rfl,h1,e⟩|⟨a,xs,rfl,rfl,h1,e⟩
  ·rw[e];exact flt_at h rx ry A
  ·cases rx;cases ry;by_cases hne:a=c
   ·subst hne;rw[Rz I (n+1) h];exact SeqAt.EqAt.same _
   refine SeqAt.EqAt.of_refs hne ?_;have iu:=Oa A;rcases hh with⟨h1,h2⟩|⟨h1,h2⟩
   ·obtain⟨its,r1,p1,_⟩:=I.tuple h1;obtain⟨its2,r2,p2,_⟩:=I.tuple h2;have:=SeqAt.RcAt.tuples (A:=A) (e:=e) p1 p2 (by omega) λj j1 j2=> ?_
    ·rw[size_toArray,size_toArray,<-r1.length,<-r2.length] at this;rw[eb];exact this
    ·obtain⟨p,ep,rp⟩:=Gc r1 j1;obtain⟨q,eq,rq⟩:=Gc r2 j2;exact P4 I n (by omega) (hj j p q ep eq) rp rq
   ·obtain⟨its,r1,p1,_⟩:=I.list h1;obtain⟨its2,r2,p2,_⟩:=I.list h2;have m1:=r1.length;have m2:=r2.length;by_cases hl:xs.length=ys.length
    ·have:=SeqAt.RcAt.lists (A:=A) (e:=e) p1.isList p2.isList (by rw[size_toArray,size_toArray];omega) (by omega) λj j1 j2=> ?_
     ·rw[size_toArray,<-m1] at this;rw[eb,hl,Nat.min_self,<-hl];simpa using this
     ·obtain⟨p,ep,rp⟩:=Gc r1 j1;obtain⟨q,eq,rq⟩:=Gc r2 j2;exact P4 I n (by omega) (hj j p q ep eq) rp rq
    ·have:=SeqAt.RcAt.lists_lengths (A:=A) p1.isList p2.isList (by rw[size_toArray,size_toArray];simp;omega) (by omega);have eb':b=false:=by rw[eb];simp[hl]
     rw[eb'];exact this
  ·cases rx;cases ry;obtain⟨its,r1,p1,_⟩:=I.tuple h1;rw[e];exact SeqAt.EqAt.tuple_none p1 (by omega)
  ·cases rx;cases ry;obtain⟨its,r1,p1,_⟩:=I.tuple h1;rw[e];exact SeqAt.EqAt.none_tuple p1 (by omega)
end
section
variable{X:Cx}
inductive RNesP(K:Frag)(x:V)(y:V)(H:Hp)(Q:VK):Prop
 |mk (n:Nat) (b:Bool) (a c:Addr):(x= .ref a)->(y= .ref c)->(n<=30)->(Eqs K H (n+1) x y b)->(Q (.bl (!b)) H)->RNesP K x y H Q
def rNes(K:Frag):V->V->Hp->VK->Prop:=λx y H Q=>RNesP K x y H Q
theorem op_nes(hu:X.A.units+64<cLine):OpR X (compareOp .NotEq) (rNes X.K):=by
 intro pins s σ H x y v u Q I rx ry h;obtain⟨n,b,a,c,rfl,rfl,hn,h,q⟩:=h;cases rx;cases ry;have iu:=Oa X.A;rcases h with⟨h,_⟩|⟨a',c',xs,ys,e,e1,e2,hh,hj,eb⟩|⟨_,_,_,e2,_⟩|⟨_,_,e1,_⟩
 ·cases h
 ·cases e1;cases e2;rcases hh with⟨h1,h2⟩|⟨h1,h2⟩
  ·obtain⟨its,r1,p1,_⟩:=I.tuple h1;obtain⟨its2,r2,p2,_⟩:=I.tuple h2;refine(SeqAt.RcNeAt.tuples (A:=X.A) (e:=e) p1 p2 (by omega) λj j1 j2=> ?_) X.prog X.w X.xe _ ⟨.bl _,H,I,rfl,?_⟩
   ·obtain⟨p,ep,rp⟩:=Gc r1 j1;obtain⟨q,eq,rq⟩:=Gc r2 j2;exact P4 I n (by omega) (hj j p q ep eq) rp rq
   ·rw[size_toArray,size_toArray,<-r1.length,<-r2.length,<-eb];exact q
  ·obtain⟨its,r1,p1,_⟩:=I.list h1;obtain⟨its2,r2,p2,_⟩:=I.list h2;have m1:=r1.length;have m2:=r2.length;by_cases hl:xs.length=ys.length
   ·refine(SeqAt.RcNeAt.lists (A:=X.A) (e:=e) p1.isList p2.isList (by rw[size_toArray,size_toArray];omega) (by omega) λj j1 j2=> ?_) X.prog X.w X.xe _ ⟨.bl _,H,I,rfl,?_⟩
    ·obtain⟨p,ep,rp⟩:=Gc r1 j1;obtain⟨q,eq,rq⟩:=Gc r2 j2;exact P4 I n (by omega) (hj j p q ep eq) rp rq
    ·have:b=(List.range its.toArray.size).all e:=by
      rw[eb,hl,Nat.min_self,<-hl,size_toArray,<-m1];simp
     rw[<-this];exact q
   ·refine(SeqAt.RcNeAt.lists_lengths (A:=X.A) p1.isList p2.isList (by rw[size_toArray,size_toArray];simp;omega) (by omega)) X.prog X.w X.xe _ ⟨.bl _,H,I,rfl,?_⟩;have eb':b=false:=by rw[eb];simp[hl]
    rw[eb'] at q;exact q
 ·cases e2
 ·cases e1
end
end L2
namespace Rp
open PySem L2 PySem.Spec PyProof.Rows PySem.P
mutual
inductive RepF(H:Hp):Bool->V->PyData->Prop
 |non {f:Bool}:RepF H f .non .none
 |bl {f:Bool} (b:Bool):RepF H f (.bl b) (.bool b)
 |int {f:Bool} (i:Int):RepF H f (.int i) (.int i)
 |str {f:Bool} (x:Str):RepF H f (.str x) (.str x)
 |tup {f:Bool} {a:Addr} {xs:List V} {ds:List PyData}:H a=some (.tup xs)->RepFs H f xs ds->RepF H f (.ref a) (.tuple ds)
 |lst {a:Addr} {xs:List V} {ds:List PyData}:H a=some (.lst xs)->RepFs H false xs ds->RepF H false (.ref a) (.list ds)
 |dct {a:Addr}:H a=some (.dK [])->RepF H true (.ref a) (.dict [])
 |dc1 {a:Addr} {x:Str} {i:Int}:H a=some (.dK [(.inr x,.int i)])->RepF H true (.ref a) (.dict [(.str x,.int i)])
inductive RepFs(H:Hp):Bool->List V->List PyData->Prop
 |nil {f:Bool}:RepFs H f [] []
 |cons {f:Bool} {x:V} {xs:List V} {d:PyData} {ds:List PyData}:RepF H f x d->RepFs H f xs ds->RepFs H f (x::xs) (d::ds)
end
mutual
theorem RepF.same{H H':Hp}(s:Same H H'):∀{f:Bool} {v:V} {d:PyData},RepF H f v d->RepF H' f v d
 |_,_,_,.non=> .non
 |_,_,_,.bl b=> .bl b
 |_,_,_,.int i=> .int i
 |_,_,_,.str x=> .str x
 |_,_,_,.tup e h=> .tup (s _ _ e) (RepFs.same s h)
 |_,_,_,.lst e h=> .lst (s _ _ e) (RepFs.same s h)
 |_,_,_,.dct e=> .dct (s _ _ e)
 |_,_,_,.dc1 e=> .dc1 (s _ _ e)
theorem RepFs.same{H H':Hp}(s:Same H H'):∀{f:Bool} {vs:List V} {ds:List PyData},RepFs H f vs ds->RepFs H' f vs ds
 |_,_,_,.nil=> .nil
 |_,_,_,.cons h t=> .cons (RepF.same s h) (RepFs.same s t)
end
mutual
theorem RepF.reads{X:Cx}{pins:List (Addr×Obj)}{σ:L2.St}{H:Hp}{s:Shared}(I:Inv X pins σ H s):∀{f:Bool} {v:V} {d:PyData} {u:Value},RepF H f v d->RelV v u->∃as,Reads s.heap u d as/\(f=true->sysModules ∉ as)
 |_,_,_,_,.non,r=>by cases r;exact⟨_,.none,λ_=>by simp⟩
 |_,_,_,_,.bl b,r=>by cases r;exact⟨_,.bool b,λ_=>by simp⟩
 |_,_,_,_,.int i,r=>by obtain⟨t,rfl⟩:=r;exact⟨_,.int i t,λ_=>by simp⟩
 |_,_,_,_,.str x,r=>by obtain⟨t,rfl⟩:=r;exact⟨_,.str x t,λ_=>by simp⟩
 |_,_,_,_,.tup e h,r=>by
  cases r;obtain⟨_,its,rv,o,e1,e2,_,n,e3⟩:=I.hok _ _ e;obtain⟨as,q,na⟩:=RepFs.reads I h rv;exact⟨as,.tuple e1 e2 e3 (by simpa using q),na⟩
 |_,_,_,_,.lst e h,r=>by
  cases r;obtain⟨_,its,n,rv,e1⟩:=I.hok _ _ e;obtain⟨as,q,na⟩:=RepFs.reads I h rv;exact⟨_,.list e1 rfl rfl (by simpa using q),λz=>by cases z⟩
 |_,_,_,_,.dct (a:=a) e,r=>by
  cases r;obtain⟨_,ns,vs,kv,o,es,ep,e1,ex,e3,_,pr,_⟩:=I.hok _ _ e;have hv:vs=[]:=by cases kv;rfl
  subst hv;have he:es.toList=[]:=by
   have:=pr.length;simpa using this
  refine⟨a::[]++[],.dict (kvs:=[]) e1 ex.1 e3 (by rw[he];exact .nil) (by rw[he];exact .nil),λ_=> ?_⟩;have:a≠sysModules:=by simpa using ns
  simpa using this.symm
 |_,_,_,_,.dc1 (a:=a) (x:=x) (i:=i) e,r=>by
  cases r;obtain⟨_,ns,vs,kv,o,es,ep,e1,ex,e3,_,pr,_⟩:=I.hok _ _ e;obtain⟨u,hv,t',hu⟩:∃u,vs=[(Sum.inr x,u)]/\∃t,u=Value.int i t:=by
   cases kv with
   | @cons _ b _ _ r1 r2=>
    cases r2;obtain⟨b1,b2⟩:=b;obtain⟨z,r1⟩:=r1;cases z;exact⟨_,rfl,r1⟩
  subst hv;generalize hes:es.toList=el at pr;cases pr with
  | @cons en _ el _ h1 h2 h3=>
   cases h3;obtain⟨t,ht⟩:∃t,en.key=Value.str x t:=by
    rcases Bm (k:=Sum.inr x) (v:=en.key) h1 with⟨_,_,z,_⟩|⟨y,t,z,e'⟩
    ·cases z
    ·cases z;exact⟨t,e'⟩
   refine⟨a::([]++[])++([]++[]),.dict (kvs:=[(.str x,.int i)]) e1 ex.1 e3 ?_ ?_,λ_=> ?_⟩
   ·rw[hes];show ReadsAll s.heap [en.key] [.str x] _;rw[ht];exact .cons (.str x t) .nil
   ·rw[hes];show ReadsAll s.heap [en.val] [.int i] _;rw[h2,hu];exact .cons (.int i t') .nil
   ·have:a≠sysModules:=by simpa using ns
    simpa using this.symm
theorem RepFs.reads{X:Cx}{pins:List (Addr×Obj)}{σ:L2.St}{H:Hp}{s:Shared}(I:Inv X pins σ H s):∀{f:Bool} {vs:List V} {ds:List PyData} {us:List Value},RepFs H f vs ds->Vals vs us->∃as,ReadsAll s.heap us ds as/\(f=true->sysModules ∉ as)
 |_,_,_,_,.nil,r=>by cases r;exact⟨_,.nil,λ_=>by simp⟩
 |_,_,_,_,.cons h t,r=>by
  cases r with
  |cons r1 r2=>
   obtain⟨as,q1,n1⟩:=RepF.reads I h r1;obtain⟨bs,q2,n2⟩:=RepFs.reads I t r2;exact⟨_,.cons q1 q2,λz=>by simp[n1 z,n2 z]⟩
end
mutual
theorem RepF.nodict{H:Hp}:∀{v:V} {d:PyData},RepF H false v d->d.hasDict=false
 |_,_,.non=>rfl
 |_,_,.bl _=>rfl
 |_,_,.int _=>rfl
 |_,_,.str _=>rfl
 |_,_,.tup _ h=>by rw[PyData.hasDict];exact RepFs.nodict h
 |_,_,.lst _ h=>by rw[PyData.hasDict];exact RepFs.nodict h
theorem RepFs.nodict{H:Hp}:∀{vs:List V} {ds:List PyData},RepFs H false vs ds->PyData.hasDictAll ds=false
 |_,_,.nil=>rfl
 |_,_,.cons h t=>by rw[PyData.hasDictAll,RepF.nodict h,RepFs.nodict t];rfl
end
end Rp
namespace M24
def pin:Nat->Int->Int->Int->Int->List (Int×Int)
 |0,f,l,lo,hi=>if lo<=f/\l<=hi then [(f,l)] else []
 |n+1,f,l,lo,hi=>if lo<=f/\l<=hi then [(f,l)] else if l<=lo\/hi<=f then [] else pin n f ((f+l) / 2) lo hi++pin n ((f+l) / 2) l lo hi
theorem Jh:∀(n:Nat) (f l lo hi:Int),f<l->l - f<=2 ^ n->∀x∈pin n f l lo hi,f<=x.1/\x.1<x.2/\x.2<=l
 |0,f,l,lo,hi,h,_,x,hx=>by
  unfold pin at hx;split at hx
  ·simp at hx;subst hx;simp;omega
  ·simp at hx
 |n+1,f,l,lo,hi,h,h2,x,hx=>by
  have h2:l - f<=2 * 2 ^ n:=by rw[pow_succ] at h2;omega
  unfold pin at hx;split at hx
  ·simp at hx;subst hx;simp;omega
  ·split at hx
   ·simp at hx
   ·rcases mem_append.mp hx with hx|hx
    ·have:=Jh n f ((f+l) / 2) lo hi (by omega) (by omega) x hx;omega
    ·have:=Jh n ((f+l) / 2) l lo hi (by omega) (by omega) x hx;omega
theorem Id:∀(n:Nat) (f l lo hi:Int),(pin n f l lo hi).length<=2 ^ n
 |0,f,l,lo,hi=>by unfold pin;split<;> simp
 |n+1,f,l,lo,hi=>by
  have p:1<=2 ^ n:=Nat.one_le_two_pow;unfold pin;split
  ·simp;rw[Nat.pow_succ];omega
  ·split
   ·simp
   ·rw[Qa3,Nat.pow_succ];have a:=Id n f ((f+l) / 2) lo hi;have b:=Id n ((f+l) / 2) l lo hi;omega
def ri(a b:Int):List Int:=(List.range (b - a).toNat).map λ(k:Nat)=>a+(k:Int)
theorem ri_cat{a b c:Int}(h1:a<=b)(h2:b<=c):ri a b++ri b c=ri a c:=by
 unfold ri;rw[show (c - a).toNat=(b - a).toNat+(c - b).toNat by omega,List.range_add,map_append,map_map]
 congr 1
 refine map_congr_left λk _=> ?_;simp only[Function.comp];omega
end M24
namespace PySem
open Sem (wp)
section
variable{prog:Program}{w:World}{K:Type}[DecidableEq K]{knd:HeapKind prog w K}{A:Around}{E:Value->Shared->Prop}{s:Shared}
theorem sdf_core{d a:Addr}{xs:List (K×Addr×Value)}{k:K}{v:Value}{Q:Value->Shared->Prop}(hu:knd.room A)(hkey:knd.is s.heap k a)(hm:s.heap.DictOfH knd d xs)(hsz:xs.length<=sizeLine)(h1:∀u,(atKey xs k).map (·.2)=some u->Q u {s with toks:=s.toks+knd.draws k})(hQ:(atKey xs k).map (·.2)=none->∀h',h'.DictOfH knd d (storedH xs k a v)->SameBut d s.heap h'->Q v {s with heap:=h',toks:=s.toks+knd.draws k}):
  wpAny (model prog w) A (dictSetDefault d (.ref a) v) Q E s:=by
 obtain⟨o,es,ep,ho,hc,hd,he,his,hn⟩:=hm;unfold dictSetDefault
 try with_reducible refine Qb9 ?_
 refine Gt (knd.pyHash hu hkey (Gt (wpAny_dictFind_heap (s:={s with toks:=s.toks+knd.draws k}) hu hkey ho hd he his hn ?_ ?_)))
 ·intro hno;have hnot:k ∉ xs.map (·.1):=not_mem_keys_of_get hno;have hz:(atKey xs k).map (·.2)=none:=by rw[atKey_none_of_get hno];rfl
  refine Gt (Qd5 (Gt (wpAny_updateDictKeys (hz:=by have e:=size_of_entries he;omega) (s:={s with toks:=s.toks+knd.draws k}) ho hd (Qa0 (hQ hz _ ⟨_,_,ep+1,Heap.get?_update_self _ ho (Obj.isFreed_of_dict (Obj.data_mapDictKeys hd _)),
   hc.mapDictKeys _,Obj.data_mapDictKeys hd _,?_,?_,?_⟩ (SameBut.update ..))))))
  ·rw[storedH_new (atKey_none_of_get hno)];simp[he,entryOfKey]
  ·rw[storedH_new (atKey_none_of_get hno)];intro x hx;rcases mem_append.mp hx with hx|hx
   ·exact knd.keeps (his x hx) ho hd (SameBut.update ..)
   ·simp only[mem_singleton] at hx;subst hx;exact knd.keeps hkey ho hd (SameBut.update ..)
  ·rw[storedH_new (atKey_none_of_get hno)];rw[map_append,nodup_append];refine⟨hn,by simp,?_⟩;intro x hx y hy;simp only[Qb1,map_nil,mem_singleton] at hy;subst hy;exact λe=>hnot (e▸hx)
 ·intro j p hj;refine Gt (wpAny_dictEntries (s:={s with toks:=s.toks+knd.draws k}) ho hd ?_);rw[entry_at he j,hj];exact Gt (Qd5 (Qa0 (h1 _ (by rw[atKey_of_get hn hj];rfl))))
theorem Ym(knd:HeapKind prog w K)(d a:Addr)(hd:(d==sysModules)=false)(dflt:Value):
  MeetsIn prog w (Builtin.«dict.setdefault» ⟨[.ref d,.ref a,dflt],[]⟩) (λA R s=>knd.room A.in1/\∃k xs,knd.is s.heap k a/\s.heap.DictOfH knd d xs/\xs.length<=sizeLine/\
   (∀v,(atKey xs k).map (·.2)=some v->R (.ok (.ret v)) {s with toks:=s.toks+knd.draws k})/\
   ((atKey xs k).map (·.2)=none->∀h',h'.DictOfH knd d (storedH xs k a dflt)->SameBut d s.heap h'->R (.ok (.ret dflt)) {s with heap:=h',toks:=s.toks+knd.draws k})):=
 .of_wp λA R s ⟨hu,k,xs,hkey,hm,hz,h1,h2⟩=>by
  unfold Builtin.«dict.setdefault»;refine Gt ?_;unfold Builtin.Dict.keyAndDefault;refine Gt (wpAny_notOrdered_dict hm.typeIs ?_);show wpAny _ _ (pure (d,Value.ref a,some dflt)) _ _ s;refine Qa0 ?_;show wpAny _ _ (if (d==sysModules)=true then _ else (dictSetDefault d (.ref a) dflt >>=_)) _ _ s;rw[Qa1 (by rw[hd];exact Bool.false_ne_true)];exact Gt (sdf_core hu hkey hm hz (λv hv=>Qa0 ⟨v,rfl,h1 v hv⟩) λhn h' hm' hs'=>Qa0 ⟨dflt,rfl,h2 hn h' hm' hs'⟩)
end
end PySem
namespace L2
open PySem PySem.Spec PyProof.Rows
section
variable{X:Cx}{pins:List (Addr×Obj)}{σ:St}{H:Hp}{s:Shared}{a b:Addr}{kvs:List (List Key×V)}{k:List Key}{z:V}{r:Value}{A:Around}{E:Value->Shared->Prop}
theorem d_setdef{Q:Value->Shared->Prop}(hu:A.units+1<cLine)(I:Inv X pins σ H s)(e:H a=some (.dT kvs))(eb:H b=some (.tup (k.map kV)))(l:kvs.length<sizeLine)(rv:RelV z r)(h1:∀v w' s',Bj kvs k=some v->Inv X pins σ H s'->RelV v w'->Q w' s')(h2:∀s',Bj kvs k=none->Inv X pins σ (upd H a (.dT (Bw kvs k z))) s'->Q r s'):
  wpAny (model X.prog X.w) A (call (.builtin "dict.setdefault") [.ref a,.ref b,r]) Q E s:=by
 obtain⟨_,hd,xs,rel,dd⟩:=V7 I.hok e;have hz:xs.length<=sizeLine:=by rw[<-Paired.length rel];exact le_of_lt l
 have hl:(Bw kvs k z).length<=sizeLine:=by have:=Cu kvs k z;omega
 have rl:=rel.val k;refine Qg6 PySem.F.slot_dict_setdefault dd.typeIs PySem.F.entry_dict_setdefault (PySem.F.args_dict_setdefault_3 _ _ _) (Ym (tupleKind (Bg X.prog X.w)) a b hd r) ⟨Qg1 hu,k,xs,Hc I.hok eb,dd,hz,λv hv=> ?_,λhn h' dd' hs=> ?_⟩
 ·rw[hv] at rl;cases hx:Bj kvs k with
  |none=>rw[hx] at rl;exact rl.elim
  |some v'=>rw[hx] at rl;exact h1 _ _ _ hx (I.tok _) rl
 ·rw[hn] at rl;have hx:Bj kvs k=none:=by
   cases hx:Bj kvs k with
   |none=>rfl
   |some v'=>rw[hx] at rl;exact rl.elim
  refine h2 _ hx ?_;obtain⟨q,es,ep,hq,h2',h3,h4,_,h5⟩:=dd';refine Fi I (by rw[e];exact True.intro) hs ⟨q,hq⟩ ⟨hl,hd,_,(rel.put k eb rv).keeps λc ys ec=> ?_,q,es,ep,hq,h2',h3,h4,h5⟩;rw[Ai (Ar ec e (λz=>nomatch z))];exact ec
end
def tDSd(td ty tx:TE):TE:=λσ H Q=>td σ H λx H1=>∃a,x= .ref a/\IsD H1 a/\ty σ H1 λy H2=>tx σ H2 λz H3=>∃kvs k b,H3 a=some (.dT kvs)/\y= .ref b/\H3 b=some (.tup (k.map kV))/\kvs.length<sizeLine/\
 (∀v,Bj kvs k=some v->Q v H3)/\(Bj kvs k=none->Q z (upd H3 a (.dT (Bw kvs k z))))
section
variable{X:Cx}{o e f:Expr}{apos cpos:Pos}{td ty tx:TE}
theorem Yt(hu:X.A.units+1<cLine)(ho:PE X o td)(he:PE X e ty)(hf:PE X f tx)(m:M2 X o "setdefault" apos e f cpos):PE X (.Call (.Attribute o "setdefault" apos) [e,f] [] cpos) (tDSd td ty tx):=by
 intro pins s σ H Q I h;refine wpAny_Call_method m.base m.few m.line plainAttrs_dict PySem.F.slot_dict_setdefault PySem.F.type_dict_setdefault (thn (ho pins s σ H _ I h) λu s1 ⟨x,H1,I1,rx,a,ex,d,q1⟩=> ?_);subst ex;obtain rfl:u=Value.ref a:=rx;obtain⟨t1,t2,_⟩:=O6 I1 d;refine⟨t1,t2,?_⟩;rw[m.trees];refine Calls.callWith_builtin rfl (Calls.evalArgs_plain (Calls.spliced_cons (thn (he pins s1 σ H1 _ I1 q1) λiv s2 ⟨y,H2,I2,ry,q2⟩=>Calls.spliced_cons (thn (hf pins s2 σ H2 _ I2 q2) λjv s3 ⟨z,H3,I3,rz,kvs,k,b,e1,e2,e3,e4,g1,g2⟩=>Calls.spliced_nil ?_))));subst e2;obtain rfl:iv=Value.ref b:=ry;exact d_setdef hu I3 e1 e3 e4 rz (λv w' s' hv I' r'=>⟨_,_,I',r',g1 v hv⟩) λs' hn I'=>⟨_,_,I',rz,g2 hn⟩
end
end L2
namespace Srt
open PySem PySem.W PyProof.Rows L2
section
variable{prog:Program}{w:World}{A:Around}{E:Value->Shared->Prop}{s:Shared}
theorem eq_self{C:Bool->Shared->Prop}{u:Value}(h:C true s):wpAny (model prog w) A (eqBool u u) C E s:=by
 unfold eqBool
 try with_reducible refine Qb9 ?_
 rw[Qa2 (beq_self_eq_true u)];exact Gt (Qd5 (Qa0 h))
theorem Se{b fin:Bool}{C:Bool->Shared->Prop}(h:C fin s):∀(us:List Value) (i:Nat),KatLex prog w A b fin C (us.zip us) i s
 |[],_=>h
 |u::us,i=>kat_cons (eq_self (kat_yes (Se h us (i+1))))
end
abbrev Pr':=Addr×Int×V
def pRef(q:Pr'):V:= .ref q.1
def ltP(ps:List Pr')(i j:Nat):Bool:=decide ((ps.getD i (0,0,.non)).2.1<(ps.getD j (0,0,.non)).2.1)
theorem ord_prs(ps:List Pr'):Ord (ltP ps) where
 asym:=λa b h=>by unfold ltP at *;simp only[Qa4,Qd7] at *;omega
 ntr:=λa b c h1 h2=>by unfold ltP at *;simp only[Qa4,Qd7] at *;omega
theorem Sr{X:Cx}{pins:List (Addr×Obj)}{σ:L2.St}{H:Hp}{s:Shared}(I:Inv X pins σ H s):∀(ps:List Pr'),(∀q∈ps,SqT X.K H q.1 [.int q.2.1,q.2.2])->
  ∃fs,KatTups s.heap (ps.map λq=>Value.ref q.1) fs/\fs.length=ps.length/\∀v∈fs,∃i t,v=Value.int i t
 |[],_=>⟨[],trivial,rfl,λv h=>nomatch h⟩
 |q::ps,h=>by
  obtain⟨fs,t,l,f⟩:=Sr I ps (λq hq=>h q (.tail _ hq));obtain⟨its,rv,⟨o,ho,hc,n,hd⟩,hz⟩:=I.tuple (h q (.head _));cases rv with
  | @cons _ u _ us ru rr=>
   obtain⟨tt,rfl⟩:=(show ∃t,u=Value.int q.2.1 t from ru)
   refine⟨Value.int q.2.1 tt::fs,.cons ho hc hd (by simp) t,by simp[l],λv hv=> ?_⟩;rcases Qa6.mp hv with rfl|hv
   ·exact⟨_,_,rfl⟩
   ·exact f v hv
theorem Va{X:Cx}{pins:List (Addr×Obj)}{σ:L2.St}{H:Hp}{s:Shared}(I:Inv X pins σ H s){v:Value}{ps:List Pr'}{Q:VK}(hT:∀q∈ps,SqT X.K H q.1 [.int q.2.1,q.2.2])(hn:(ps.map (·.2.1)).Nodup)(h64:ps.length<64)(hcol:∀(Q:List Value->Shared->Prop),(∀h1 t1,(∀b o,s.heap.get? b=some o->h1.get? b=some o)->Q (ps.map λq=>Value.ref q.1) {s with heap:=h1,toks:=t1})->wpAny (model X.prog X.w) X.A.in1 (collect v) Q X.xe s)(h:∀(l:Addr) (ps':List Pr'),H l=none->ps'.Perm ps->ps'.Pairwise (λa b=>a.2.1<=b.2.1)->Q (.ref l) (upd H l (.lst (ps'.map pRef)))):
  wpAny (model X.prog X.w) X.A (call (.builtin "sorted") [v]) (EP X pins σ Q) X.xe s:=by
 have lz:(ps.map λq=>Value.ref q.1).length=ps.length:=If ..;refine Hv (κ:=tuples' true) (ord_prs ps) (λvs=>vs=ps.map λq=>Value.ref q.1) (λvs e=>by rw[e,lz];exact h64) (λQ hq=>hcol Q λh1 t1 k=>hq _ h1 t1 rfl k) ?_ ?_ ?_
 ·rintro vs h' t' rfl k l2 Q hq;rw[lz] at l2;have I':Inv X pins σ H {s with heap:=h',toks:=t'}:=I.kept k;obtain⟨fs,t,l,f⟩:=Sr I' ps hT;refine kat_kind (s:={s with heap:=h',toks:=t'}) (T:=Value.type "int") t (by omega) (λv hv=> ?_) rfl ?_
  ·obtain⟨i,t,rfl⟩:=f v hv;exact Looks.of_pure rfl
  ·have:(Value.type "int" !=Value.type "tuple")=true:=rfl;rw[this];exact hq
 ·rintro vs h' t' rfl k i j C hi hj hC;rw[lz] at hi hj;have I':Inv X pins σ H {s with heap:=h',toks:=t'}:=I.kept k;show wpAny _ _ (keyLt' _ ((ps.map λq=>Value.ref q.1).getD i Value.none) ((ps.map λq=>Value.ref q.1).getD j Value.none)) C _ _;have ei:(ps.map λq=>Value.ref q.1).getD i Value.none=Value.ref ps[i].1:=by simp[hi]
  have ej:(ps.map λq=>Value.ref q.1).getD j Value.none=Value.ref ps[j].1:=by simp[hj]
  have fi:ps.getD i (0,0,.non)=ps[i]:=by simp[hi]
  have fj:ps.getD j (0,0,.non)=ps[j]:=by simp[hj]
  rw[ei,ej];unfold ltP at hC;rw[fi,fj] at hC;obtain⟨ui,ri,⟨oi,hoi,hci,ni,hdi⟩,zi⟩:=I'.tuple (hT ps[i] (getElem_mem hi));by_cases hij:i=j
  ·subst hij;refine kat_lt hoi hdi hoi hdi ?_;have:decide (ui.toArray.size<ui.toArray.size)=false:=by simp
   rw[this];refine Se ?_ _ 0;have z:decide (ps[i].2.1<ps[i].2.1)=false:=by simp
   rw[z] at hC;exact hC
  ·obtain⟨uj,rj,⟨oj,hoj,hcj,nj,hdj⟩,zj⟩:=I'.tuple (hT ps[j] (getElem_mem hj));have ne:¬ps[i].2.1=ps[j].2.1:=λe=>(by
    have pw:=Qe5.mp hn;rcases Nat.lt_or_gt_of_ne hij with q|q
    ·exact absurd (by rw[getElem_map,getElem_map];exact e) (pw i j (by simpa using hi) (by simpa using hj) q)
    ·exact absurd (by rw[getElem_map,getElem_map];exact e.symm) (pw j i (by simpa using hj) (by simpa using hi) q))
   refine kat_lt hoi hdi hoj hdj ?_;cases ri with
   | @cons _ u _ us ru rr=>
    cases rj with
    | @cons _ u' _ us' ru' rr'=>
     obtain⟨t1,rfl⟩:=(show ∃t,u=Value.int ps[i].2.1 t from ru)
     obtain⟨t2,rfl⟩:=(show ∃t,u'=Value.int ps[j].2.1 t from ru')
     refine kat_cons (wpAny_eqBool_int ?_);have:(ps[i].2.1==ps[j].2.1)=false:=by simpa using ne
     rw[this];exact kat_no (oneLt_int hC)
 ·rintro vs p h1 h' t' l e rfl pm st k1 k zl hl;have I:Inv X pins σ H {s with heap:=h1,toks:=t'}:=I.kept k1;have pl:=pm.toList;rw[lz] at pl pm st;have hz:=pm.size;have mem:∀i∈p.toList,i<ps.length:=λi hi=>by simpa using pl.mem_iff.mp hi
  have e1:(p.toList.map λi=>(ps.map λq=>Value.ref q.1).getD i Value.none)=(p.toList.map λi=>ps.getD i (0,0,.non)).map λq=>Value.ref q.1:=by
   rw[map_map];refine map_congr_left λi hi=> ?_;have:=mem i hi;simp[this]
  rw[e1] at hl;have pp:(p.toList.map λi=>ps.getD i (0,0,.non)).Perm ps:=by
   have:=pl.map (λi=>ps.getD i ((0,0,.non):Pr'))
   rwa [Eg] at this
  have pw:(p.toList.map λi=>ps.getD i ((0,0,.non):Pr')).Pairwise (λa b=>a.2.1<=b.2.1):=by
   rw[Qc4];refine(st.pairwise hz).imp λ{a b} hab=> ?_;unfold ltP at hab;simp only[Qd7] at hab;omega
  refine⟨.ref l,_,I.laid (t':=t') (o:= .lst ((p.toList.map λi=>ps.getD i (0,0,.non)).map pRef)) k zl ⟨?_,_,e,K0 pRef (λq=>Value.ref q.1) (λ_=>rfl) _,hl⟩,rfl,h l _ (I.hok.fresh zl) pp pw⟩;rw[If,pp.length_eq,Qb3];omega
def rSortP(K:Frag):List V->Hp->VK->Prop:=λxs H Q=>∃(p:Addr) (ps:List Pr'),xs=[.ref p]/\SqL K H p (ps.map pRef)/\(∀q∈ps,SqT K H q.1 [.int q.2.1,q.2.2])/\(ps.map (·.2.1)).Nodup/\ps.length<64/\∀(l:Addr) (ps':List Pr'),H l=none->ps'.Perm ps->ps'.Pairwise (λa b=>a.2.1<=b.2.1)->Q (.ref l) (upd H l (.lst (ps'.map pRef)))
theorem call_sortedP{X:Cx}:Dv X (.builtin "sorted") (rSortP X.K):=by
 intro pins s σ H xs us Q I r h;obtain⟨p,ps,rfl,hq,ok,nd,few,q⟩:=h;obtain⟨u,rfl,rx⟩:=Dg r;cases rx;obtain⟨its,rv,hp,hz⟩:=I.list hq;have e:its=ps.map λq=>Value.ref q.1:=by
  clear hq hp hz q r ok nd few
  induction ps generalizing its with
  |nil=>cases rv;rfl
  |cons a ps ih=>
   cases rv with
   |cons ru rr=>rw[Qb1,<-ih _ rr];cases ru;rfl
 subst e;refine Va I ok nd few (λQ hq=>collect_list hp.isList (hq _ _ λb o ho=> ?_) (by rw[If,Qb3];omega)) q;have hlt:b<s.heap.objs.size:=Qa7 ho;rw[get?_update_ne _ _ _ _ (ne_of_lt hlt)];exact Lt _ ho
end Srt
namespace K29
open PySem L2 Wk
variable{P:Program}{w:World}{K:Frag}{mg:Str->Option Value}{base:Heap}{C I:Addr}
def top(i:Nat):Stmt:=PySem.Challenge.pw_joinedever_k29_whole_answers_among_thems.main.body.getD i (.Pass ⟨0,0,0,0⟩)
def Qi(i j:Nat):Stmt:=match top i with
 | .ClassDef (body:=b) .. =>b.getD j (.Pass ⟨0,0,0,0⟩)
 |s=>s
abbrev Tw:Stmt:=top 4
abbrev Ou:Stmt:=top 5
abbrev Ub:Stmt:=top 12
abbrev sJp:Stmt:=top 13
abbrev Oj:Stmt:=Qi 14 0
abbrev Ol:Stmt:=Qi 14 1
abbrev Xs:Stmt:=Qi 14 2
abbrev Oi:Stmt:=Qi 14 4
abbrev Hn:Stmt:=Qi 14 5
abbrev Xq:Stmt:=Qi 14 6
abbrev Jx:Stmt:=Qi 14 7
abbrev Jm:Stmt:=Qi 14 8
abbrev Nu:Stmt:=Qi 14 9
abbrev sDeck:Stmt:=top 37
abbrev sTake:Stmt:=top 38
abbrev Z5:Stmt:=top 39
abbrev K6:Stmt:=top 40
abbrev P3:Stmt:=top 41
abbrev sTie:Stmt:=top 42
abbrev Ui:Stmt:=top 43
abbrev Pp:Stmt:=top 7
abbrev sPin:Stmt:=top 1
abbrev sPo:Stmt:=top 2
abbrev sLaid:Stmt:=top 16
abbrev sAby:Stmt:=top 17
abbrev Wg:Stmt:=top 18
abbrev V8:Stmt:=top 19
abbrev Kx:Stmt:=top 21
abbrev sWays:Stmt:=top 22
abbrev Vj:Stmt:=top 23
abbrev Mq:Stmt:=top 25
abbrev P7:Stmt:=top 27
abbrev T2:Stmt:=top 28
abbrev Ik:Stmt:=top 29
abbrev K3:Stmt:=top 30
abbrev Pf:Stmt:=top 32
abbrev O9:Stmt:=top 24
abbrev sAns:Stmt:=top 34
abbrev Ov:Stmt:=top 35
abbrev Lc:Stmt:=top 45
abbrev Fb:Stmt:=top 46
abbrev En:Stmt:=top 47
abbrev Pk:Stmt:=top 48
abbrev sStep:Stmt:=top 49
abbrev sLaw:Stmt:=top 50
structure Txt(K:Frag)(mg:Str->Option Value)(C I:Addr):Prop where
 cl:Cls K C
 nS:NoAttr K C "states"
 mkC:Mk K C I
 mgC:mg "Takes"=some (.ref C)
 isinstance:mg "isinstance"=none
 int:mg "int"=none
 bool:mg "bool"=none
 tuple:mg "tuple"=none
 len:mg "len"=none
 range:mg "range"=none
 sum:mg "sum"=none
 min:mg "min"=none
 zip:mg "zip"=none
 sorted:mg "sorted"=none
 list:mg "list"=none
 enumerate:mg "enumerate"=none
 set:mg "set"=none
 dict:mg "dict"=none
structure S3 where
 tops:List Int
 sides:List Int
 odds:Int
def Es(tops:List Int)(a b:Int):Bool:=decide (0<(tops.count a:Int) - (tops.count b:Int))||(decide ((tops.count a:Int) - (tops.count b:Int)=0) && decide (a<b))
def Cs(tops:List Int)(kept taken:Int):List Int:=tops.map λt=>if t=taken then kept else t
def Bn(tops sides:List Int)(taken turn:Int):List Int:=List.zipWith (λt s=>if t=taken then Builtin.bitXor s turn else s) tops sides
def kt(tops:List Int)(a b:Int):Int×Int:=if Es tops a b then (a,b) else (b,a)
def Bo(s t:Int):Int:=if s=t then 1 else 0
def Eh(st:S3)(i j:Nat):S3×Bool:=
 let a:=st.tops.getD i 0
 let b:=st.tops.getD j 0
 if a=b then (⟨st.tops,st.sides,st.odds+Bo (st.sides.getD i 0) (st.sides.getD j 0)⟩,false)
 else (⟨Cs st.tops (kt st.tops a b).1 (kt st.tops a b).2,Bn st.tops st.sides (kt st.tops a b).2 (Bo (st.sides.getD i 0) (st.sides.getD j 0)),st.odds⟩,true)
def Hj(tops:List Int):Nat:=((List.range tops.length).filter λp=>decide (tops.getD p 0=(p:Nat))).length
def StAt(H:Hp)(r:Addr)(st:S3):Prop:=∃a b:Addr,H r=some (.tup [.ref a,.ref b,.int st.odds])/\H a=some (.tup (st.tops.map V.int))/\H b=some (.tup (st.sides.map V.int))
def TupS(H H':Hp):Prop:=∀b xs,H b=some (.tup xs)->H' b=some (.tup xs)
theorem StAt.tup{H H':Hp}{r:Addr}{st:S3}(h:StAt H r st)(t:TupS H H'):StAt H' r st:=by
 obtain⟨a,b,h1,h2,h3⟩:=h;exact⟨a,b,t _ _ h1,t _ _ h2,t _ _ h3⟩
def StsAt(H:Hp):List Addr->List S3->Prop
 |[],[]=>True
 |r::rs,st::sts=>StAt H r st/\StsAt H rs sts
 |_,_=>False
theorem StsAt.tup{H H':Hp}(t:TupS H H'):∀{rs:List Addr} {sts:List S3},StsAt H rs sts->StsAt H' rs sts
 |[],[],_=>trivial
 |_::_,_::_,h=>⟨h.1.tup t,StsAt.tup t h.2⟩
theorem StsAt.snoc{H:Hp}{r:Addr}{st:S3}(t:StAt H r st):∀{rs:List Addr} {sts:List S3},StsAt H rs sts->StsAt H (rs++[r]) (sts++[st])
 |[],[],_=>⟨t,trivial⟩
 |_::_,_::_,h=>⟨h.1,StsAt.snoc t h.2⟩
theorem StsAt.len{H:Hp}:∀{rs:List Addr} {sts:List S3},StsAt H rs sts->rs.length=sts.length
 |[],[],_=>rfl
 |_::_,_::_,h=>by simp[StsAt.len h.2]
theorem StsAt.take{H:Hp}(k:Nat):∀{rs:List Addr} {sts:List S3},StsAt H rs sts->StsAt H (rs.take k) (sts.take k):=by
 induction k with
 |zero=>intro rs sts _;simp[StsAt]
 |succ k ih=>
  intro rs sts h
  match rs,sts,h with
  |[],[],_=>exact trivial
  |_::_,_::_,h=>exact⟨h.1,ih h.2⟩
theorem StsAt.last{H:Hp}:∀{rs:List Addr} {pre:List S3} {st:S3},StsAt H rs (pre++[st])->∃rs' r,rs=rs'++[r]/\StAt H r st/\StsAt H rs' pre
 |[],[],_,h=>h.elim
 |[],_::_,_,h=>h.elim
 |r::rs,[],st,h=>by
  match rs,h with
  |[],h=>exact⟨[],r,rfl,h.1,trivial⟩
  |_::_,h=>exact h.2.elim
 |r::rs,p::pre,st,h=>by
  obtain⟨rs',r',e,h1,h2⟩:=StsAt.last (pre:=pre) h.2;exact⟨r::rs',r',by rw[e];rfl,h1,h.1,h2⟩
def Pc(S:Addr):List (Str×V):=Fu "states" (.ref S) []
theorem Kz(S:Addr):(Pc S).lookup ("states":Str)=some (.ref S):=by
 unfold Pc;rw[Ek,Qa2 rfl]
theorem Cm(S:Addr){m:Str}(h:¬m="states"):(Pc S).lookup m=none:=by
 unfold Pc;rw[Ek,Qa1 h];rfl
theorem flds_put(S S':Addr):Fu "states" (.ref S') (Pc S)=Pc S':=by
 unfold Pc;show (if ("states":Str)="states" then _ else _)=_;rw[Qa2 rfl];rfl
structure TkAt(C:Addr)(H:Hp)(x S:Addr)(sts:List S3):Prop where
 ob:∃dx,H x=some (.ins C dx (Pc S))
 st:∃rs:List Addr,H S=some (.lst (rs.map V.ref))/\StsAt H rs sts
 le:sts.length<=200
structure Ok(n:Nat)(st:S3):Prop where
 t:st.tops.length=n
 s:st.sides.length=n
 n1:1<=n
 n2:n<=24
def Qk:Sp:=λvs H Q _=>∃i:Int,vs=[.int i]/\Q (.bl true) H
def Lm:Sp:=λvs H Q _=>∃i lo hi:Int,vs=[.int i,.int lo,.int hi]/\lo<=i/\i<=hi/\Q (.bl true) H
def Qa(K:Frag):Sp:=λvs H Q _=>∃(t:Addr) (tops:List Int) (a b:Int),vs=[.ref t,.int a,.int b]/\H t=some (.tup (tops.map V.int))/\Q (.bl (Es tops a b)) H
def spJp(K:Frag):Sp:=λvs H Q _=>∃(t s:Addr) (st:S3) (n i j:Nat),vs=[.ref t,.ref s,.int (i:Nat),.int (j:Nat)]/\H t=some (.tup (st.tops.map V.int))/\H s=some (.tup (st.sides.map V.int))/\Ok n st/\i<n/\j<n/\
 ∀(r a b:Addr) (H':Hp),Same H H'->H' r=some (.tup [.ref a,.ref b])->H' a=some (.tup ((Cs st.tops (kt st.tops (st.tops.getD i 0) (st.tops.getD j 0)).1 (kt st.tops (st.tops.getD i 0) (st.tops.getD j 0)).2).map V.int))->
  H' b=some (.tup ((Bn st.tops st.sides (kt st.tops (st.tops.getD i 0) (st.tops.getD j 0)).2 (Bo (st.sides.getD i 0) (st.sides.getD j 0))).map V.int))->Q (.ref r) H'
def Df(m:Int):S3:=⟨Ft 0 m.toNat,replicate m.toNat 0,0⟩
def U3(C:Addr):Sp:=λvs H Q _=>∃(x dx:Addr) (m:Int),vs=[.ref x,.int m]/\H x=some (.ins C dx [])/\1<=m/\m<=24/\∀(S:Addr) (H':Hp),H S=none->TkAt C H' x S [Df m]->(∀b o,H b=some o->b≠x->H' b=some o)->Q .non H'
def Fr(C:Addr):Sp:=λvs H Q _=>∃(x S:Addr) (pre:List S3) (st:S3),vs=[.ref x]/\TkAt C H x S (pre++[st])/\∀r,StAt H r st->Q (.ref r) H
def Vz(C:Addr):Sp:=λvs H Q _=>∃(x S:Addr) (pre:List S3) (st:S3) (n i:Nat),vs=[.ref x,.int (i:Nat)]/\TkAt C H x S (pre++[st])/\Ok n st/\i<n/\Q (.int (st.tops.getD i 0)) H
def Tr(C:Addr):Sp:=λvs H Q _=>∃(x S:Addr) (pre:List S3) (st:S3) (n i:Nat),vs=[.ref x,.int (i:Nat)]/\TkAt C H x S (pre++[st])/\Ok n st/\i<n/\Q (.int (st.tops.count (st.tops.getD i 0):Nat)) H
def spOdd(C:Addr):Sp:=λvs H Q _=>∃(x S:Addr) (pre:List S3) (st:S3),vs=[.ref x]/\TkAt C H x S (pre++[st])/\Q (.int st.odds) H
def Kw(C:Addr):Sp:=λvs H Q _=>∃(x S:Addr) (sts:List S3),vs=[.ref x]/\TkAt C H x S sts/\Q (.int ((sts.length:Int) - 1)) H
def Pu(C:Addr):Sp:=λvs H Q _=>∃(x S:Addr) (pre:List S3) (st:S3) (n:Nat),vs=[.ref x]/\TkAt C H x S (pre++[st])/\Ok n st/\∀H',Same H H'->Q (.int (Hj st.tops:Nat)) H'
def Tl(C:Addr):Sp:=λvs H Q _=>∃(x S:Addr) (pre:List S3) (st:S3) (n i j:Nat),vs=[.ref x,.int (i:Nat),.int (j:Nat)]/\TkAt C H x S (pre++[st])/\pre.length<=150/\Ok n st/\i<n/\j<n/\
 ∀H',(∀b o,H b=some o->b≠S->H' b=some o)->TkAt C H' x S (pre++[st]++[(Eh st i j).1])->Q (.bl (Eh st i j).2) H'
def U5(C:Addr):Sp:=λvs H Q _=>∃(x S:Addr) (sts:List S3) (k:Nat),vs=[.ref x,.int (k:Nat)]/\TkAt C H x S sts/\k<sts.length/\∀(S':Addr) (H':Hp),H S'=none->(∀b o,H b=some o->b≠x->H' b=some o)->TkAt C H' x S' (sts.take (k+1))->Q .non H'
theorem Dx{ns:List Int}{i:Nat}(h:i<ns.length):atI (ns.map V.int) (i:Int)=some (.int (ns.getD i 0)):=Am (by rw[getElem?_map,getElem?_eq_getElem h];simp[getD,h])
theorem at_last{r:V}{xs:List V}:atI (xs++[r]) (-1)=some r:=by
 unfold atI ixN;rw[Qa1 (by decide),Qa2 (by simp;omega)];have:((-1:Int)+((xs++[r]).length:Int)).toNat=xs.length:=by simp;omega
 rw[this];simp
theorem scWhole:Av ["thing"] ["thing"] (Ah Tw):=⟨rfl,rfl,rfl,by decide+kernel,rfl,by decide+kernel,by decide+kernel⟩
theorem ok_Whole{f:Addr}{fd:FuncData}(F:Fun K "is_whole" "is_whole" Tw f fd)(T:Txt K mg C I):
  FnOk P w K mg base CX0 1 f fd ["thing"] Qk:=by
 refine F.ok scWhole (λvs H Q E h=> ?_) (λcdv A outer s H vs Q E hr h=> ?_)
 ·obtain⟨_,rfl,_⟩:=h;rfl
 ·obtain⟨i,rfl,k⟩:=h;refine⟨_,Ag (As (O2 (A0 R1 (by rfl) T.isinstance (by decide+kernel) (Aa (pv 0) (Aa (pe_ty (T:="int") (by rfl) T.int (by decide+kernel)) Ad))) (Hl (Tf (A0 R1 (by rfl) T.isinstance (by decide+kernel) (Aa (pv 0) (Aa (pe_ty (T:="bool") (by rfl) T.bool (by decide+kernel)) Ad))))))),?_⟩;exact⟨_,rfl,_,_,"int",true,rfl,.int i,rfl,_,rfl,Ew ⟨_,rfl,_,_,"bool",false,rfl,.int i,rfl,_,rfl,k⟩⟩
theorem Zc:Av ["thing","low","high"] ["thing","low","high"] (Ah Ou):=⟨rfl,rfl,rfl,by decide+kernel,rfl,by decide+kernel,by decide+kernel⟩
theorem Yl{f:Addr}{fd:FuncData}(F:Fun K "is_within" "is_within" Ou f fd)(T:Txt K mg C I)(GWhole:Cl P w K mg base 1 "is_whole" ["thing"] Qk):
  FnOk P w K mg base CX0 2 f fd ["thing","low","high"] Lm:=by
 refine F.ok Zc (λvs H Q E h=> ?_) (λcdv A outer s H vs Q E hr h=> ?_)
 ·obtain⟨_,_,_,rfl,_⟩:=h;rfl
 ·obtain⟨i,lo,hi,rfl,h1,h2,k⟩:=h;refine⟨_,Ag (As (O2 (A7 GWhole hr (Aa (pv 0) Ad)) (Hl (Za G0 G0 (pv 1) (pv 0) (pv 2))))),?_⟩;refine⟨_,rfl,i,rfl,_,rfl,Ew ⟨_,rfl,_,rfl,_,_,rfl,rfl,_,rfl,?_⟩⟩;rw[decide_eq_true h1];refine Ew ⟨_,rfl,_,_,rfl,rfl,?_⟩;show Q (.bl (decide (i<=hi))) H;rw[decide_eq_true h2];exact k
theorem scStays:Av ["tops","one","other","more"] ["tops","one","other"] (Ah Ub):=⟨rfl,rfl,rfl,by decide+kernel,rfl,by decide+kernel,by decide+kernel⟩
theorem ok_Stays{f:Addr}{fd:FuncData}(F:Fun K "stays" "stays" Ub f fd)(T:Txt K mg C I):
  FnOk P w K mg base CX0 1 f fd ["tops","one","other"] (Qa K):=by
 refine F.ok scStays (λvs H Q E h=> ?_) (λcdv A outer s H vs Q E hr h=> ?_)
 ·obtain⟨_,_,_,_,rfl,_⟩:=h;rfl
 ·obtain⟨t,tops,a,b,rfl,ht,k⟩:=h;refine⟨_,Ae (Aq (i:=3) scStays.nd rfl (Or.inl rfl) (Au Fv (De plainAttrs_tuple slot_tuple_count type_tuple_count Jj (pv 0) (Aa (pv 1) Ad)) (De plainAttrs_tuple slot_tuple_count type_tuple_count Jj (pv 0) (Aa (pv 2) Ad))))
   (Ag (As (Z1 (Cr op_gt (pv 3) Af (Aw _)) (Hl (O2 (Cr Bq (pv 3) Af (Aw _)) (Hl (Cr op_lt (pv 1) (pv 2) (Aw _)))))))),?_⟩
  refine⟨_,rfl,.inr (.inl ⟨rfl,.inr ⟨_,ht⟩⟩),_,rfl,t,tops,a,rfl,rfl,SqT.of ht,_,rfl,.inr (.inl ⟨rfl,.inr ⟨_,ht⟩⟩),_,rfl,t,tops,b,rfl,rfl,SqT.of ht,_,_,rfl,rfl,?_⟩;refine⟨_,rfl,_,_,rfl,rfl,_,rfl,B7 (λc=> ?_) λc=> ?_⟩
  ·have e:Es tops a b=true:=by unfold Es;rw[c];rfl
   rw[e] at k;exact k
  ·have c:decide (0<(tops.count a:Int) - (tops.count b:Int))=false:=by simpa using c
   refine⟨_,rfl,rfl,_,rfl,B7 (λc2=> ?_) λc2=> ?_⟩
   ·have c2:(tops.count a:Int) - (tops.count b:Int)=0:=by simpa using c2
    have e:Es tops a b=decide (a<b):=by unfold Es;rw[c,decide_eq_true c2];rfl
    rw[e] at k;exact⟨_,rfl,_,rfl,_,_,rfl,rfl,k⟩
   ·have c2:¬(tops.count a:Int) - (tops.count b:Int)=0:=by simpa using c2
    have e:Es tops a b=false:=by unfold Es;rw[c,decide_eq_false c2];rfl
    rw[e] at k;exact k
def tTail:TS:=λD σ H=>∃(t s:Addr) (tops sides:List Int) (i j kept taken turn:Int) (n:Nat),σ=[some (.ref t),some (.ref s),some (.int i),some (.int j),some (.int kept),some (.int taken),some (.int turn),none,none]/\H t=some (.tup (tops.map V.int))/\H s=some (.tup (sides.map V.int))/\tops.length=n/\sides.length=n/\n<=24/\
 ∀(r a b:Addr) (H':Hp),Same H H'->H' r=some (.tup [.ref a,.ref b])->H' a=some (.tup ((Cs tops kept taken).map V.int))->H' b=some (.tup ((Bn tops sides taken turn).map V.int))->D.rt (.ref r) H'
theorem Qj{ms:List Int}{j:Nat}{x:V}(h:(ms.map V.int)[j]? =some x):∃c,ms[j]? =some c/\x= .int c:=by
 rw[getElem?_map] at h;cases hq:ms[j]? with
 |none=>rw[hq] at h;cases h
 |some z=>rw[hq] at h;exact⟨z,rfl,(Option.some.inj h).symm⟩
theorem scJp:Av ["tops","sides","one","other","kept","taken","turn","new_tops","new_sides"] ["tops","sides","one","other"] (Ah sJp):=⟨rfl,rfl,rfl,by decide+kernel,rfl,by decide+kernel,by decide+kernel⟩
theorem ok_Jp{f:Addr}{fd:FuncData}(F:Fun K "joined_parts" "joined_parts" sJp f fd)(T:Txt K mg C I)(GStays:Cl P w K mg base 1 "stays" ["tops","one","other"] (Qa K)):
  FnOk P w K mg base CX0 2 f fd ["tops","sides","one","other"] (spJp K):=by
 refine F.ok scJp (λvs H Q E h=> ?_) (λcdv A outer s H vs Q E hr h=> ?_)
 ·obtain⟨_,_,_,_,_,_,rfl,_⟩:=h;rfl
 ·obtain⟨t,s',st,n,i,j,rfl,ht,hs,ok,hi,hj,k⟩:=h;refine⟨_,Ae (Da (A1 (Aa (Ao At (pv 0) (pv 2) (λ_ _=>rfl)) (Aa (Ao At (pv 0) (pv 3) (λ_ _=>rfl)) Ad))) (C8 rfl (An (Aj (i:=4) scJp.nd rfl (Or.inr rfl)) (An (Aj (i:=5) scJp.nd rfl (Or.inr rfl)) Bk))))
   (Ae (Br (Hm (Gg (A7 GStays hr (Aa (pv 0) (Aa (pv 4) (Aa (pv 5) Ad)))))) (Ag (Da (A1 (Aa (pv 5) (Aa (pv 4) Ad))) (C8 rfl (An (Aj (i:=4) scJp.nd rfl (Or.inr rfl)) (An (Aj (i:=5) scJp.nd rfl (Or.inr rfl)) Bk))))) Bd)
   (Ae (Aq (i:=6) scJp.nd rfl (Or.inr rfl) (Mt (Ax Bq (Ao At (pv 1) (pv 2) (λ_ _=>rfl)) (Ao At (pv 1) (pv 3) (λ_ _=>rfl)) (Aw _)) Af Af))
   (PSs.imp' (t':=tTail) (Ae (Eo (i:=7) (T:=["top"]) (F:=["kept","taken"]) (js:=[4,5]) scJp.nd rfl (Or.inl rfl) (cs (osc:=Ah sJp)) rfl (Ds (pv 0)) (λ_ _ _ _ _=>Aj (i:=0) (show (["top","kept","taken"]:List Str).Nodup by decide+kernel) rfl (Or.inl rfl)) (λ_ _ _ _ _=>Ce) (λ_ _ _ _ _=>Mt (Ax Bq (pv 0) (pv 2) (Aw _)) (pv 1) (pv 0)))
   (Ae (Eo (i:=8) (T:=["top","side"]) (F:=["taken","turn"]) (js:=[5,6]) scJp.nd rfl (Or.inl rfl) (cs (osc:=Ah sJp)) rfl (pi_zip rfl T.zip (Aa (pv 0) (Aa (pv 1) Ad))) (λ_ _ _ _ _=>Fk K 2 rfl rfl (An (Aj (i:=0) (show (["top","side","taken","turn"]:List Str).Nodup by decide+kernel) rfl (Or.inl rfl)) (An (Aj (i:=1) (show (["top","side","taken","turn"]:List Str).Nodup by decide+kernel) rfl (Or.inl rfl)) Bk))) (λ_ _ _ _ _=>Ce) (λ_ _ _ _ _=>Mt (Ax Bq (pv 0) (pv 2) (Aw _)) (Au op_xor (pv 1) (pv 3)) (pv 1)))
   (Ag (As (A1 (Aa (Bb Ba (by rfl) T.tuple (by decide+kernel) (Aa (pv 7) Ad)) (Aa (Bb Ba (by rfl) T.tuple (by decide+kernel) (Aa (pv 8) Ad)) Ad))))))) ?tail))),?_⟩
  case tail=>
   rintro D σ H ⟨t,s',tops,sides,i,j,kept,taken,turn,n,rfl,ht,hs,tl,sl,n2,k⟩;refine⟨_,rfl,t,rfl,⟨_,SqT.of ht⟩,λD1 hD1=>Ia (K:=K) (a:=t) (xs:=tops.map V.int) (λj σ ys H2=>∃u:Option V,σ=[u,some (.int kept),some (.int taken)]/\Same H H2/\H2 D1=some (.lst ys)/\ys=((Cs tops kept taken).take j).map V.int)
    ⟨none,rfl,Ac hD1,Ab,rfl⟩ (λj σ ys H2 _ ⟨_,_,s2,e,_⟩=>⟨SqT.of (s2 _ _ ht),e⟩) ?_ ?_⟩
   ·rintro m x σ ys H2 hx ⟨u,rfl,s2,e2,rfl⟩;obtain⟨c,hc,rfl⟩:=Qj hx;have ml:m<tops.length:=(List.getElem?_eq_some_iff.mp hc).1;have nx:(Cs tops kept taken)[m]? =some (if c=taken then kept else c):=by unfold Cs;rw[getElem?_map,hc];rfl
    refine⟨_,rfl,_,rfl,rfl,_,rfl,B7 (λg=> ?_) λg=> ?_⟩
    ·have g:c=taken:=by simpa using g
     rw[Qa2 g] at nx;exact⟨_,rfl,e2,Ap (by simp;omega),_,rfl,λb o e=>by rw[Ai (Al e hD1)];exact s2 _ _ e,Ab,by rw[Qb2,nx];simp⟩
    ·have g:¬c=taken:=by simpa using g
     rw[Qa1 g] at nx;exact⟨_,rfl,e2,Ap (by simp;omega),_,rfl,λb o e=>by rw[Ai (Al e hD1)];exact s2 _ _ e,Ab,by rw[Qb2,nx];simp⟩
   rintro σ ys H2 ⟨u,rfl,s2,e2,rfl⟩;rw[Qc6 (by simp[Cs])] at e2;refine⟨_,rfl,_,rfl,t,s',_,_,rfl,SqT.of (s2 _ _ ht),SqT.of (s2 _ _ hs),λD2 hD2=>comp_zip (K:=K) (a:=t) (b:=s') (xs:=tops.map V.int) (ys:=sides.map V.int) (λj σ ys H3=>∃u1 u2:Option V,σ=[u1,u2,some (.int taken),some (.int turn)]/\Same H2 H3/\H3 D2=some (.lst ys)/\ys=((Bn tops sides taken turn).take j).map V.int)
    ⟨none,none,rfl,Ac hD2,Ab,rfl⟩ (λj σ ys H3 _ _ ⟨_,_,_,s3,e,_⟩=>⟨SqT.of (s3 _ _ (s2 _ _ ht)),SqT.of (s3 _ _ (s2 _ _ hs)),e⟩) ?_ ?_⟩
   ·rintro m x y σ ys H3 T' hx hy ⟨u1,u2,rfl,s3,e3,rfl⟩ hT;obtain⟨c,hc,rfl⟩:=Qj hx;obtain⟨d,hd,rfl⟩:=Qj hy;have ml:m<tops.length:=(List.getElem?_eq_some_iff.mp hc).1;have nx:(Bn tops sides taken turn)[m]? =some (if c=taken then Builtin.bitXor d turn else d):=by unfold Bn;rw[List.getElem?_zipWith,hc,hd]
    have s4:=s3.trans (Ac (o:= .tup [.int c,.int d]) hT);have T4:=Ab (H:=H3) (a:=T') (o:= .tup [.int c,.int d]);have D4:=Ac (o:= .tup [.int c,.int d]) hT _ _ e3;generalize upd H3 T' (.tup [.int c,.int d])=H4 at s4 T4 D4;refine⟨T',_,rfl,SqT.of T4,rfl,_,_,rfl,_,_,rfl,rfl,?_⟩;have ll:(((Bn tops sides taken turn).take m).map V.int).length<=24:=by simp[Bn];omega
    refine⟨_,rfl,_,rfl,rfl,_,rfl,B7 (λg=> ?_) λg=> ?_⟩
    ·have g:c=taken:=by simpa using g
     rw[Qa2 g] at nx;exact⟨_,rfl,_,rfl,_,_,rfl,rfl,D4,Ap (by omega),_,_,rfl,λb o e=>by rw[Ai (Al e hD2)];exact s4 _ _ e,Ab,by rw[Qb2,nx];simp⟩
    ·have g:¬c=taken:=by simpa using g
     rw[Qa1 g] at nx;exact⟨_,rfl,D4,Ap (by omega),_,_,rfl,λb o e=>by rw[Ai (Al e hD2)];exact s4 _ _ e,Ab,by rw[Qb2,nx];simp⟩
   rintro m σ ys H3 hm ⟨u1,u2,rfl,s3,e3,rfl⟩;rw[Qc6 (by simp[Bn,hm])] at e3;refine⟨_,rfl,D1,_,rfl,.inl ⟨SqL.of (s3 _ _ e2),λq hq=>⟨_,rfl,D2,_,rfl,.inl ⟨SqL.of (Ac hq _ _ e3),λq2 hq2=>⟨small (by simp),λr hr'=> ?_⟩⟩⟩⟩⟩;exact k r q q2 _ (((s2.trans s3).trans (Ac hq)).trans ((Ac hq2).trans (Ac hr'))) Ab (Ac hr' _ _ (Ac hq2 _ _ Ab)) (Ac hr' _ _ Ab)
  have gi:=Dx (ns:=st.tops) (i:=i) (by rw[ok.t];exact hi);have gj:=Dx (ns:=st.tops) (i:=j) (by rw[ok.t];exact hj);have si:=Dx (ns:=st.sides) (i:=i) (by rw[ok.s];exact hi);have sj:=Dx (ns:=st.sides) (i:=j) (by rw[ok.s];exact hj);refine⟨_,rfl,_,rfl,t,_,_,_,rfl,rfl,SqT.of ht,gi,_,rfl,_,rfl,t,_,_,_,rfl,rfl,SqT.of ht,gj,small (by simp),λp hp=>⟨p,_,rfl,SqT.of Ab,rfl,_,_,rfl,_,_,rfl,rfl,?_⟩⟩;have s1:=Ac (o:= .tup [.int (st.tops.getD i 0),.int (st.tops.getD j 0)]) hp;generalize upd H p (.tup [.int (st.tops.getD i 0),.int (st.tops.getD j 0)])=H1 at s1;refine⟨_,rfl,_,rfl,_,rfl,t,st.tops,_,_,rfl,s1 _ _ ht,_,rfl,B7 (λc=> ?_) λc=> ?_⟩
  ·have c:Es st.tops (st.tops.getD i 0) (st.tops.getD j 0)=false:=by simpa using c
   have ek:kt st.tops (st.tops.getD i 0) (st.tops.getD j 0)=(st.tops.getD j 0,st.tops.getD i 0):=by unfold kt;rw[c];rfl
   rw[ek] at k;refine⟨_,rfl,_,rfl,small (by simp),λp2 hp2=>⟨p2,_,rfl,SqT.of Ab,rfl,_,_,rfl,_,_,rfl,rfl,?_⟩⟩;have s2:=s1.trans (Ac (o:= .tup [.int (st.tops.getD j 0),.int (st.tops.getD i 0)]) hp2);generalize upd H1 p2 (.tup [.int (st.tops.getD j 0),.int (st.tops.getD i 0)])=H2 at s2;refine⟨_,rfl,_,rfl,s',_,_,_,rfl,rfl,SqT.of (s2 _ _ hs),si,_,rfl,_,rfl,s',_,_,_,rfl,rfl,SqT.of (s2 _ _ hs),sj,rfl,_,rfl,B7 (λg=> ?_) λg=> ?_⟩
   ·have g:st.sides.getD i 0=st.sides.getD j 0:=by simpa using g
    have eg:Bo (st.sides.getD i 0) (st.sides.getD j 0)=1:=by unfold Bo;rw[Qa2 g]
    rw[eg] at k;exact⟨t,s',st.tops,st.sides,_,_,_,_,1,n,rfl,s2 _ _ ht,s2 _ _ hs,ok.t,ok.s,ok.n2,λr a b H' s3=>k r a b H' (s2.trans s3)⟩
   ·have g:¬st.sides.getD i 0=st.sides.getD j 0:=by simpa using g
    have eg:Bo (st.sides.getD i 0) (st.sides.getD j 0)=0:=by unfold Bo;rw[Qa1 g]
    rw[eg] at k;exact⟨t,s',st.tops,st.sides,_,_,_,_,0,n,rfl,s2 _ _ ht,s2 _ _ hs,ok.t,ok.s,ok.n2,λr a b H' s3=>k r a b H' (s2.trans s3)⟩
  ·have c:Es st.tops (st.tops.getD i 0) (st.tops.getD j 0)=true:=by simpa using c
   have ek:kt st.tops (st.tops.getD i 0) (st.tops.getD j 0)=(st.tops.getD i 0,st.tops.getD j 0):=by unfold kt;rw[c];rfl
   rw[ek] at k;dsimp only[B6];refine⟨_,rfl,_,rfl,s',_,_,_,rfl,rfl,SqT.of (s1 _ _ hs),si,_,rfl,_,rfl,s',_,_,_,rfl,rfl,SqT.of (s1 _ _ hs),sj,rfl,_,rfl,B7 (λg=> ?_) λg=> ?_⟩
   ·have g:st.sides.getD i 0=st.sides.getD j 0:=by simpa using g
    have eg:Bo (st.sides.getD i 0) (st.sides.getD j 0)=1:=by unfold Bo;rw[Qa2 g]
    rw[eg] at k;exact⟨t,s',st.tops,st.sides,_,_,_,_,1,n,rfl,s1 _ _ ht,s1 _ _ hs,ok.t,ok.s,ok.n2,λr a b H' s3=>k r a b H' (s1.trans s3)⟩
   ·have g:¬st.sides.getD i 0=st.sides.getD j 0:=by simpa using g
    have eg:Bo (st.sides.getD i 0) (st.sides.getD j 0)=0:=by unfold Bo;rw[Qa1 g]
    rw[eg] at k;exact⟨t,s',st.tops,st.sides,_,_,_,_,0,n,rfl,s1 _ _ ht,s1 _ _ hs,ok.t,ok.s,ok.n2,λr a b H' s3=>k r a b H' (s1.trans s3)⟩
inductive Deed where
 |come (m:Int) (n:Str) (a b w:Int)
 |go (m:Int) (n:Str)
def Deed.vs:Deed->List V
 | .come m n a b w=>[.str "come",.int m,.str n,.int a,.int b,.int w]
 | .go m n=>[.str "go",.int m,.str n]
def DeedsAt(H:Hp)(rs:List Addr)(ds:List Deed):Prop:=rs.length=ds.length/\∀(i:Nat) r d,rs[i]? =some r->ds[i]? =some d->H r=some (.tup d.vs)
def Dj:List Deed->Str->Bool
 |[],_=>false
 | .come _ n' _ _ _::r,n=>if n'=n then true else Dj r n
 | .go _ n'::r,n=>if n'=n then false else Dj r n
def Tup(H H':Hp):Prop:=∀b xs,H b=some (.tup xs)->H' b=some (.tup xs)
theorem Tup.trans{H H1 H2:Hp}(a:Tup H H1)(b:Tup H1 H2):Tup H H2:=λx xs e=>b x xs (a x xs e)
theorem Tup.of{H H':Hp}(s:Same H H'):Tup H H':=λb xs e=>s _ _ e
theorem Tup.lst{H:Hp}{l:Addr}{xs ys:List V}(h:H l=some (.lst xs)):Tup H (upd H l (.lst ys)):=λb zs e=>by
 rw[Ai (Ar e h (by intro z;cases z))];exact e
def HistD(H:Hp)(h:Addr)(ds:List Deed):Prop:=∃(many:Int) (t:Addr) (rs:List Addr),H h=some (.tup [.int many,.ref t])/\H t=some (.tup (rs.map V.ref))/\DeedsAt H rs ds/\ds.length<=60
def Mu:Deed->Str->Bool
 | .go _ n',n=>decide (n'=n)
 | .come ..,_=>false
def Iv(n:Str):List Deed->Nat->Option Nat
 |[],_=>none
 |d::r,j=>if Mu d n=true then some j else Iv n r (j+1)
structure Life where
 n:Str
 s:Nat
 e:Nat
 a:Int
 b:Int
 w:Int
def Life.vs(l:Life):List V:=[.str l.n,.int (l.s:Int),.int (l.e:Int),.int l.a,.int l.b,.int l.w]
def endOf(ds:List Deed)(k:Nat)(n:Str):Nat:=(Iv n (ds.drop (k+1)) (k+1)).getD ds.length
def Bx(ds:List Deed)(k:Nat):List Life:=match ds[k]? with
 |some (.come _ n a b w)=>[⟨n,k,endOf ds k n,a,b,w⟩]
 |_=>[]
def Be(ds:List Deed):Nat->List Life
 |0=>[]
 |j+1=>Be ds j++Bx ds j
theorem Ow(n:Str):∀(l:List Deed) (j t:Nat),Iv n l j=some t->j<=t/\t<j+l.length/\∃d,l[t - j]? =some d/\Mu d n=true
 |[],_,_,h=>by cases h
 |x::l,j,t,h=>by
  unfold Iv at h;by_cases g:Mu x n=true
  ·rw[Qa2 g] at h;cases h;exact⟨le_refl _,by simp,x,by simp,g⟩
  ·rw[Qa1 g] at h;obtain⟨h1,h2,d,h3,h4⟩:=Ow n l (j+1) t h;refine⟨by omega,by simp;omega,d,?_,h4⟩;rw[show t - j=(t - (j+1))+1 by omega];simpa using h3
theorem Oq(n:Str):∀(l:List Deed) (j m:Nat) (d:Deed),l[m]? =some d->Mu d n=true->∃t,Iv n l j=some t/\t<=j+m
 |[],_,_,_,h,_=>by simp at h
 |x::l,j,m,d,h,g=>by
  unfold Iv;by_cases gx:Mu x n=true
  ·exact⟨j,Qa2 gx,by omega⟩
  ·rw[Qa1 gx];cases m with
   |zero=>
    have:x=d:=by simpa using h
    exact absurd (this▸g) gx
   |succ m=>
    obtain⟨t,h1,h2⟩:=Oq n l (j+1) m d (by simpa using h) g;exact⟨t,h1,by omega⟩
theorem Uh(ds:List Deed)(k:Nat)(n:Str)(hk:k<ds.length):k<endOf ds k n:=by
 unfold endOf;cases e:Iv n (ds.drop (k+1)) (k+1) with
 |none=>exact hk
 |some t=>have:=Ow n _ _ _ e;show k<t;omega
theorem Pz{ds:List Deed}{k:Nat}{n:Str}{i:Nat}{d:Deed}(hd:ds[i]? =some d)(he:endOf ds k n=i):Mu d n=true:=by
 unfold endOf at he;cases e:Iv n (ds.drop (k+1)) (k+1) with
 |none=>
  rw[e] at he;have:i<ds.length:=(List.getElem?_eq_some_iff.mp hd).1;have he:ds.length=i:=he;omega
 |some t=>
  rw[e] at he;have he:t=i:=he;subst he;obtain⟨h1,_,d',h2,h3⟩:=Ow n _ _ _ e;rw[List.getElem?_drop,show k+1+(t - (k+1))=t by omega,hd] at h2;cases h2;exact h3
theorem N3{ds:List Deed}{k:Nat}{n:Str}{i:Nat}{d:Deed}(hd:ds[i]? =some d)(hg:Mu d n=true)(hk:k<i):endOf ds k n<=i:=by
 obtain⟨t,h1,h2⟩:=Oq n (ds.drop (k+1)) (k+1) (i - (k+1)) d (by rw[List.getElem?_drop,show k+1+(i - (k+1))=i by omega];exact hd) hg;unfold endOf;rw[h1];show t<=i;omega
def Ca(ds:List Deed)(i:Nat):List Life:=(Be ds i).filter λl=>decide (i<=l.e)
theorem Do{ds:List Deed}:∀{j:Nat} {l:Life},l∈Be ds j->∃m,l.s<j/\ds[l.s]? =some (.come m l.n l.a l.b l.w)/\l.e=endOf ds l.s l.n
 |0,_,h=>by cases h
 |j+1,l,h=>by
  rcases mem_append.mp h with h|h
  ·obtain⟨m,h1,h2⟩:=Do h;exact⟨m,by omega,h2⟩
  ·unfold Bx at h;split at h
   ·rename_i m n a b w e;rw[mem_singleton.mp h];exact⟨m,by show j<j+1;omega,e,rfl⟩
   ·cases h
theorem Ff{ds:List Deed}{i:Nat}{m:Int}{n:Str}{a b w:Int}(h:ds[i]? =some (.come m n a b w)):Ca ds (i+1)=Ca ds i++[⟨n,i,endOf ds i n,a,b,w⟩]:=by
 unfold Ca;show (Be ds i++Bx ds i).filter _=_;have e:Bx ds i=[⟨n,i,endOf ds i n,a,b,w⟩]:=by unfold Bx;rw[h]
 have hi:i<ds.length:=(List.getElem?_eq_some_iff.mp h).1;rw[e,filter_append];have g:=Uh ds i n hi;have:decide (i+1<=endOf ds i n)=true:=decide_eq_true (by omega);rw[List.filter_cons_of_pos (by simpa using this),filter_nil]
 congr 1
 refine filter_congr λl hl=> ?_;obtain⟨m',h1,h2,h3⟩:=Do hl;rw[decide_eq_decide];have:l.e≠i:=λz=>by
  rw[h3] at z;have:=Pz h z;cases this
 omega
theorem Ig{ds:List Deed}{i:Nat}{m:Int}{n:Str}(h:ds[i]? =some (.go m n)):Ca ds (i+1)=(Ca ds i).filter λl=>decide (l.n≠n):=by
 unfold Ca;show (Be ds i++Bx ds i).filter _=_;have e:Bx ds i=[]:=by unfold Bx;rw[h]
 rw[e,Qc9,List.filter_filter];refine filter_congr λl hl=> ?_;obtain⟨m',h1,h2,h3⟩:=Do hl;rw[Bool.eq_iff_iff,Qf6,Qa4,Qa4,Qa4];constructor
 ·intro z;refine⟨λq=> ?_,by omega⟩;have:=N3 (k:=l.s) (n:=l.n) h (by simp[Mu,q]) h1;omega
 ·rintro⟨z1,z2⟩;rcases lt_or_ge i l.e with q|q
  ·exact q
  ·have q:endOf ds l.s l.n=i:=by omega
   have:=Pz h q;exact absurd (by simpa[Mu] using this:n=l.n).symm z1
theorem J2(ds:List Deed)(i:Nat):∀k,(Be ds (i+k)).filter (λl=>decide (l.s<i) && decide (i<=l.e))=Ca ds i
 |0=>by
  unfold Ca;refine filter_congr λl hl=> ?_;obtain⟨m',h1,_⟩:=Do hl;rw[decide_eq_true (show l.s<i by omega),Bool.true_and]
 |k+1=>by
  show (Be ds (i+k)++Bx ds (i+k)).filter _=_;rw[filter_append,J2 ds i k];have:(Bx ds (i+k)).filter (λl=>decide (l.s<i) && decide (i<=l.e))=[]:=by
   unfold Bx;split
   ·rw[List.filter_cons_of_neg,filter_nil];simp;intro z;omega
   ·rfl
  rw[this,Qc9]
theorem Rj(ds:List Deed){i:Nat}(hi:i<=ds.length):(Be ds ds.length).filter (λl=>decide (l.s<i) && decide (i<=l.e))=Ca ds i:=by
 have:=J2 ds i (ds.length - i)
 rwa [show i+(ds.length - i)=ds.length by omega] at this
def okAt:List Deed->Deed->Prop
 |r,.come _ n _ _ _=>Dj r n=false
 |r,.go _ n=>Dj r n=true
def Jr(ds:List Deed):Prop:=∀(i:Nat) (d:Deed),ds[i]? =some d->okAt (ds.take i).reverse d
theorem Fo{ds:List Deed}(hR:Jr ds):∀i,i<=ds.length->∀n,Dj (ds.take i).reverse n=true↔∃l∈Ca ds i,l.n=n
 |0,_,n=>by simp[Dj,Ca,Be]
 |i+1,hi,n=>by
  have ih:=Fo hR i (by omega);obtain⟨d,hd⟩:∃d,ds[i]? =some d:=⟨ds[i],getElem?_eq_getElem (by omega)⟩
  have tk:(ds.take (i+1)).reverse=d::(ds.take i).reverse:=by rw[List.take_succ,hd];simp
  rw[tk];cases d with
  |come m n' a b w=>
   rw[Ff hd];show (if n'=n then true else Dj (ds.take i).reverse n)=true↔_;by_cases e:n'=n
   ·rw[Qa2 e];exact⟨λ_=>⟨_,mem_append_right _ (.head _),e⟩,λ_=>rfl⟩
   ·rw[Qa1 e,ih n];constructor
    ·rintro⟨l,h1,h2⟩;exact⟨l,mem_append_left _ h1,h2⟩
    ·rintro⟨l,h1,h2⟩;rcases mem_append.mp h1 with h1|h1
     ·exact⟨l,h1,h2⟩
     ·rw[mem_singleton.mp h1] at h2;exact absurd h2 e
  |go m n'=>
   rw[Ig hd];show (if n'=n then false else Dj (ds.take i).reverse n)=true↔_;by_cases e:n'=n
   ·rw[Qa2 e];refine⟨λz=>(by cases z),?_⟩;rintro⟨l,h1,h2⟩;have:=(mem_filter.mp h1).2;simp at this;exact absurd (h2.trans e.symm) this
   ·rw[Qa1 e,ih n];constructor
    ·rintro⟨l,h1,h2⟩;exact⟨l,mem_filter.mpr ⟨h1,by simp;exact λz=>e (z.symm.trans h2)⟩,h2⟩
    ·rintro⟨l,h1,h2⟩;exact⟨l,(mem_filter.mp h1).1,h2⟩
def RowsL(H:Hp)(qs:List Addr)(L:List Life):Prop:=qs.length=L.length/\∀(i:Nat) q l,qs[i]? =some q->L[i]? =some l->H q=some (.tup l.vs)
theorem RowsL.tup{H H':Hp}{qs:List Addr}{L:List Life}(h:RowsL H qs L)(t:Tup H H'):RowsL H' qs L:=⟨h.1,λi r d e1 e2=>t _ _ (h.2 i r d e1 e2)⟩
theorem RowsL.snoc{H:Hp}{rs:List Addr}{ds:List Life}{r:Addr}{d:Life}(h:RowsL H rs ds)(e:H r=some (.tup d.vs)):RowsL H (rs++[r]) (ds++[d]):=by
 refine⟨by simp[h.1],λi r' d' e1 e2=> ?_⟩;rcases lt_or_ge i rs.length with q|q
 ·rw[getElem?_append_left q] at e1;rw[getElem?_append_left (by rw[<-h.1];exact q)] at e2;exact h.2 i r' d' e1 e2
 ·rw[getElem?_append_right q] at e1;rw[getElem?_append_right (by rw[<-h.1];exact q),<-h.1] at e2;cases z:i - rs.length with
  |zero=>
   rw[z] at e1 e2;cases e1;cases e2;exact e
  |succ n=>rw[z] at e1;cases e1
def LivesAt(H:Hp)(r:Addr)(L:List Life):Prop:=∃qs:List Addr,H r=some (.tup (qs.map V.ref))/\RowsL H qs L
theorem Gp(ds:List Deed):∀j,(Be ds j).length<=j
 |0=>le_refl _
 |j+1=>by
  have:=Gp ds j;show (Be ds j++Bx ds j).length<=_;have:(Bx ds j).length<=1:=by unfold Bx;split<;> simp
  simp;omega
theorem Ir{ds:List Deed}{k:Nat}{m:Int}{n:Str}{a b w:Int}(h:ds[k]? =some (.come m n a b w)):∀j,k<j->(⟨n,k,endOf ds k n,a,b,w⟩:Life)∈Be ds j
 |0,hj=>absurd hj (Nat.not_lt_zero _)
 |j+1,hj=>by
  show _∈Be ds j++Bx ds j;rcases lt_or_ge k j with q|q
  ·exact mem_append_left _ (Ir h j q)
  ·have:k=j:=by omega
   subst this;refine mem_append_right _ ?_;unfold Bx;rw[h];exact .head _
theorem J7{ds:List Deed}(hR:Jr ds):∀i,i<=ds.length->(Ca ds i).Pairwise λl l'=>l.n≠l'.n
 |0,_=> .nil
 |i+1,hi=>by
  have ih:=J7 hR i (by omega);obtain⟨d,hd⟩:∃d,ds[i]? =some d:=⟨ds[i],getElem?_eq_getElem (by omega)⟩
  have ok:=hR i d hd;cases d with
  |come m n a b w=>
   rw[Ff hd,Qg2];refine⟨ih,Qf2 _ _,λl hl l' hl'=> ?_⟩;rw[mem_singleton.mp hl'];intro e;have e:l.n=n:=e;have:=(Fo hR i (by omega) n).mpr ⟨l,hl,e⟩;have ok:Dj (ds.take i).reverse n=false:=ok;rw[this] at ok;cases ok
  |go m n=>
   rw[Ig hd];exact ih.sublist Qg8
theorem Ty{ds:List Deed}(hR:Jr ds){i:Nat}(hi:i<=ds.length){l l':Life}(h:l∈Ca ds i)(h':l'∈Ca ds i)(e:l.n=l'.n):l=l':=by
 have:=J7 hR i hi;generalize Ca ds i=L at this h h'
 induction L with
 |nil=>cases h
 |cons x L ih=>
  have q:=pairwise_cons.mp this;rcases Qa6.mp h with e1|h1
  ·rcases Qa6.mp h' with e2|h2
   ·rw[e1,e2]
   ·exact absurd e (e1▸q.1 _ h2)
  ·rcases Qa6.mp h' with e2|h2
   ·exact absurd e.symm (e2▸q.1 _ h1)
   ·exact ih q.2 h1 h2
def Kb(ds:List Deed)(i k:Nat):Int:=match ds[k]? with
 |some (.come _ n _ _ _)=>if endOf ds k n<i then (endOf ds k n:Int) else (ds.length:Int)
 |_=>(ds.length:Int)
theorem Wr(ds:List Deed)(k:Nat):Kb ds 0 k=(ds.length:Int):=by
 unfold Kb;split
 ·rw[Qa1 (Nat.not_lt_zero _)]
 ·rfl
theorem end_le(ds:List Deed)(k:Nat)(n:Str):endOf ds k n<=ds.length:=by
 unfold endOf;cases e:Iv n (ds.drop (k+1)) (k+1) with
 |none=>exact le_refl _
 |some t=>
  have:=Ow n _ _ _ e;rw[length_drop] at this;show t<=_;omega
theorem Xm{ds:List Deed}{i k:Nat}{m:Int}{n:Str}{a b w:Int}(h:ds[i]? =some (.come m n a b w)):Kb ds (i+1) k=Kb ds i k:=by
 unfold Kb;split
 ·rename_i m' n' a' b' w' e;have:endOf ds k n'≠i:=λz=>by have:=Pz h z;cases this
  by_cases q:endOf ds k n'<i
  ·rw[Qa2 q,Qa2 (by omega)]
  ·rw[Qa1 q,Qa1 (by omega)]
 ·rfl
theorem endI_go{ds:List Deed}(hR:Jr ds){i k:Nat}{m:Int}{n:Str}(h:ds[i]? =some (.go m n)){l:Life}(hl:l∈Ca ds i)(hn:l.n=n):Kb ds (i+1) k=if k=l.s then (i:Int) else Kb ds i k:=by
 have hi:i<ds.length:=(List.getElem?_eq_some_iff.mp h).1;obtain⟨hl1,hl2⟩:=mem_filter.mp hl;have hl2:i<=l.e:=by simpa using hl2
 obtain⟨m',s1,s2,s3⟩:=Do hl1;by_cases ek:k=l.s
 ·rw[Qa2 ek];subst ek;unfold Kb;rw[s2];have:=N3 (k:=l.s) (n:=l.n) h (by simp[Mu,hn]) s1;have:endOf ds l.s l.n=i:=by omega
  dsimp only;rw[this,Qa2 (by omega)]
 ·rw[Qa1 ek];unfold Kb;split
  ·rename_i m2 n2 a2 b2 w2 e;have:endOf ds k n2≠i:=λz=>by
    have g:=Pz h z;have g:n=n2:=by simpa[Mu] using g
    have kl:k<ds.length:=(List.getElem?_eq_some_iff.mp e).1;have:=Uh ds k n2 kl;have mem:(⟨n2,k,endOf ds k n2,a2,b2,w2⟩:Life)∈Ca ds i:=mem_filter.mpr ⟨Ir e i (by omega),by simp;omega⟩;have:=Ty hR (by omega) mem hl (by show n2=l.n;rw[hn,g]);exact ek (by rw[<-this])
   by_cases q:endOf ds k n2<i
   ·rw[Qa2 q,Qa2 (by omega)]
   ·rw[Qa1 q,Qa1 (by omega)]
  ·rfl
theorem Rq(x:V):∀k:Nat,(replicate k [x]).flatten=replicate k x
 |0=>rfl
 |k+1=>by rw[replicate_succ,flatten_cons,Rq x k];rfl
def O3:Sp:=λvs H Q _=>∃(h:Addr) (ds:List Deed),vs=[.ref h]/\HistD H h ds/\Jr ds/\∀(r:Addr) (H':Hp),Same H H'->LivesAt H' r (Be ds ds.length)->Q (.ref r) H'
structure LI(H:Hp)(d E:Addr)(ds:List Deed)(i:Nat)(kvs:List (Key×V))(es:List Int)(H2:Hp):Prop where
 sm:Same H H2
 hd:H2 d=some (.dK kvs)
 hE:H2 E=some (.lst (es.map V.int))
 ln:es.length=ds.length
 lk:kvs.length<=i
 ev:∀k,k<ds.length->es[k]? =some (Kb ds i k)
 kv:∀l∈Ca ds i,Bj kvs (.inr l.n)=some (.int (l.s:Int))
theorem scLives:Av ["history","deeds","came","ends","number","deed"] ["history"] (Ah Pp):=⟨rfl,rfl,rfl,by decide+kernel,rfl,by decide+kernel,by decide+kernel⟩
theorem Zq{f:Addr}{fd:FuncData}(F:Fun K "lives_of" "lives_of" Pp f fd)(T:Txt K mg C I):
  FnOk P w K mg base CX0 1 f fd ["history"] O3:=by
 refine F.ok scLives (λvs H Q E h=> ?_) (λcdv A outer s H vs Q E hr h=> ?_)
 ·obtain⟨_,_,rfl,_⟩:=h;rfl
 ·obtain⟨h,ds,rfl,⟨many,t,rs,eh,et,hdd,l60⟩,hR,k⟩:=h;refine⟨_,Ae (Aq (i:=1) scLives.nd rfl (Or.inl rfl) (Ao At (pv 0) Af (λ_ _=>rfl)))
   (Ae (Aq (i:=2) scLives.nd rfl (Or.inl rfl) Io)
   (Ae (Aq (i:=3) scLives.nd rfl (Or.inr rfl) (Au Tx (Bh (Aa (A0 Ay (by rfl) T.len PySem.boot_len (Aa (pv 1) Ad)) Ad)) (A0 Ay (by rfl) T.len PySem.boot_len (Aa (pv 1) Ad))))
   (Ae (Cb PassesOwn.never rfl (Iz rfl T.enumerate (Aa (pv 1) Ad)) (C8 rfl (An (Aj (i:=4) scLives.nd rfl (Or.inl rfl)) (An (Aj (i:=5) scLives.nd rfl (Or.inl rfl)) Bk))) (Ag (Br (Ax Bq (Ao At (pv 5) Af (λ_ _=>rfl)) Bs (Aw _)) (Ag (Kl (Dk hr) (pv 2) (Ao At (pv 5) Af (λ_ _=>rfl)) (pv 4) rfl)) (Ag (Da (pv 4) (Mm (pv 3) (Dh (Dk hr) (pv 2) (Ao At (pv 5) Af (λ_ _=>rfl)) (λ_ _=>rfl)) Fw))))))
   (Ag (As (Bb Ba (by rfl) T.tuple (by decide+kernel) (Aa (Cg (T:=["number","deed"]) (F:=["ends"]) (js:=[3]) (cs (osc:=Ah Pp)) rfl (Iz rfl T.enumerate (Aa (pv 1) Ad)) (λ_ _ _ _ _=>Fk K 2 rfl rfl (An (Aj (i:=0) (show (["number","deed","ends"]:List Str).Nodup by decide+kernel) rfl (Or.inl rfl)) (An (Aj (i:=1) (show (["number","deed","ends"]:List Str).Nodup by decide+kernel) rfl (Or.inl rfl)) Bk))) (λ_ _ _ _ _=>Ep (Ax Bq (Ao (r:=Hr K) At (pv 1) Af (λ_ _=>rfl)) Bs (Aw _))) (λ_ _ _ _ _=>A1 (Aa (Ao (r:=Hr K) At (pv 1) Af (λ_ _=>rfl)) (Aa (pv 0) (Aa (Ao (r:=rIxL K) Bc (pv 2) (pv 0) (λ_ _=>rfl)) (Aa (Ao (r:=Hr K) At (pv 1) Af (λ_ _=>rfl)) (Aa (Ao (r:=Hr K) At (pv 1) Af (λ_ _=>rfl)) (Aa (Ao (r:=Hr K) At (pv 1) Af (λ_ _=>rfl)) Ad)))))))) Ad))))))),?_⟩
  have lrs:=hdd.1;refine⟨_,rfl,h,_,1,_,rfl,rfl,SqT.of eh,Am (j:=1) rfl,?_⟩;refine λd hd=> ?_;have s1:=Ac (o:= .dK []) hd;have d1:=Ab (H:=H) (a:=d) (o:= .dK []);generalize upd H d (.dK [])=H1 at s1 d1;refine⟨_,rfl,t,_,rfl,.inr (SqT.of (s1 _ _ et)),small (by simp),λq hq=> ?_⟩;have s2:=s1.trans (Ac (o:= .lst [.int ((rs.map V.ref).length:Int)]) hq);have d2:=Ac (o:= .lst [.int ((rs.map V.ref).length:Int)]) hq _ _ d1;have q2:=Ab (H:=H1) (a:=q) (o:= .lst [.int ((rs.map V.ref).length:Int)]);generalize upd H1 q (.lst [.int ((rs.map V.ref).length:Int)])=H2 at s2 d2 q2;refine⟨_,rfl,t,_,rfl,.inr (SqT.of (s2 _ _ et)),q,_,_,rfl,rfl,q2,by rw[If];omega,by rw[If];omega,by rw[If,Qd4];exact small (by simp;omega),λE hE=> ?_⟩;rw[Rq,If,Qd4,lrs];have I0:LI H d E ds 0 [] (replicate ds.length (ds.length:Int)) (upd H2 E (.lst (replicate ds.length (V.int (ds.length:Int))))):={
   sm:=s2.trans (Ac hE)
   hd:=Ac hE _ _ d2
   hE:=by rw[Ab,List.map_replicate]
   ln:=by simp
   lk:=le_refl _
   ev:=λk hk=>by rw[Wr];simp[hk]
   kv:=λl hl=>by cases hl}
  have dE:d≠E:=Al d2 hE;have Ef:H E=none:=by
   cases z:H E with
   |none=>rfl
   |some o=>rw[s2 _ _ z] at hE;cases hE
  show Xc _ _ _ _ _;generalize upd H2 E (.lst (replicate ds.length (V.int (ds.length:Int))))=H3 at I0;refine⟨_,rfl,t,_,rfl,SqT.of (I0.sm _ _ et),Xh (K:=K) (a:=t) (xs:=rs.map V.ref) (λi σ H4=>∃(x4 x5:Option V) (kvs:List (Key×V)) (es:List Int),σ=[some (.ref h),some (.ref t),some (.ref d),some (.ref E),x4,x5]/\LI H d E ds i kvs es H4) ⟨none,none,[],_,rfl,I0⟩ (λi σ H4 _ ⟨_,_,_,_,_,I⟩=>SqT.of (I.sm _ _ et)) ?_ ?_⟩
  ·rintro i x σ H4 T hx ⟨x4,x5,kvs,es,rfl,I⟩ hT;obtain⟨r,er,rfl⟩:∃r,rs[i]? =some r/\x= .ref r:=by
    rw[getElem?_map] at hx;cases q:rs[i]? with
    |none=>rw[q] at hx;cases hx
    |some z=>rw[q] at hx;exact⟨z,rfl,(Option.some.inj hx).symm⟩
   have li:i<ds.length:=by rw[<-lrs];exact(List.getElem?_eq_some_iff.mp er).1
   obtain⟨dd,ed⟩:∃dd,ds[i]? =some dd:=⟨_,getElem?_eq_getElem li⟩
   have s5:=Ac (o:= .tup [.int (i:Int),.ref r]) hT;have T5:=Ab (H:=H4) (a:=T) (o:= .tup [.int (i:Int),.ref r]);generalize upd H4 T (.tup [.int (i:Int),.ref r])=H5 at s5 T5;have I5:LI H d E ds i kvs es H5:=⟨I.sm.trans s5,s5 _ _ I.hd,s5 _ _ I.hE,I.ln,I.lk,I.ev,I.kv⟩
   have r5:=I5.sm _ _ (hdd.2 i r dd er ed);refine⟨T,_,rfl,SqT.of T5,rfl,_,_,rfl,_,_,rfl,rfl,?_⟩;cases dd with
   |come m n a b w'=>
    refine⟨_,rfl,r,_,0,_,rfl,rfl,SqT.of r5,Am (j:=0) rfl,rfl,_,rfl,Ew ?_⟩;refine⟨_,rfl,_,rfl,_,rfl,r,_,2,_,rfl,rfl,SqT.of r5,Am (j:=2) rfl,d,_,rfl,DPut.k (k:= .inr n) I5.hd (Ap (by have:=I5.lk;omega)),_,_,Bw kvs (.inr n) (.int (i:Int)),es,rfl,?_⟩;have nf:∀l∈Ca ds i,l.n≠n:=λl hl e=>by
     have ok:Dj (ds.take i).reverse n=false:=hR i _ ed;rw[(Fo hR i (by omega) n).mpr ⟨l,hl,e⟩] at ok;cases ok
    exact{
     sm:=λc o e=>by rw[Ai (Al e hd)];exact I5.sm _ _ e
     hd:=Ab
     hE:=by rw[Ai dE.symm];exact I5.hE
     ln:=I5.ln
     lk:=by have:=Cu kvs (.inr n) (.int (i:Int));have:=I5.lk;omega
     ev:=λk hk=>by rw[Xm ed];exact I5.ev k hk
     kv:=λl hl=>by
      rw[Ff ed] at hl;rw[Gd];rcases mem_append.mp hl with hl|hl
      ·rw[Qa1 (λe=>nf l hl (by cases e;rfl))];exact I5.kv l hl
      ·rw[mem_singleton.mp hl,Qa2 rfl]}
   |go m n=>
    obtain⟨l,hl,hn⟩:=(Fo hR i (by omega) n).mp (hR i _ ed);have hv:=I5.kv l hl;rw[hn] at hv;have ls:l.s<es.length:=by
     rw[I5.ln];obtain⟨_,s1,_⟩:=Do (mem_filter.mp hl).1;omega
    refine⟨_,rfl,r,_,0,_,rfl,rfl,SqT.of r5,Am (j:=0) rfl,rfl,_,rfl,C4 ?_⟩;refine⟨_,rfl,_,rfl,_,rfl,_,rfl,r,_,2,_,rfl,rfl,SqT.of r5,Am (j:=2) rfl,d,_,rfl,hv▸DGet.k (k:= .inr n) I5.hd,E,_,_,l.s,rfl,rfl,I5.hE,?_,_,_,kvs,es.set l.s (i:Int),rfl,?_⟩
    ·rw[If];unfold ixN;rw[Qa2 (by omega),Qa2 (by omega),Qd4]
    exact{
     sm:=λc o e=>by rw[Ai (Al e Ef)];exact I5.sm _ _ e
     hd:=by rw[Ai dE];exact I5.hd
     hE:=by rw[Ab,List.map_set]
     ln:=by rw[length_set];exact I5.ln
     lk:=by have:=I5.lk;omega
     ev:=λk hk=>by
      rw[endI_go hR ed hl hn,List.getElem?_set];by_cases e:k=l.s
      ·rw[Qa2 e.symm,Qa2 e,Qa2 ls]
      ·rw[Qa1 (λz=>e z.symm),Qa1 e];exact I5.ev k hk
     kv:=λl' hl'=>by
      rw[Ig ed] at hl';exact I5.kv l' (mem_filter.mp hl').1}
  rintro σ H4 ⟨x4,x5,kvs,es,rfl,I⟩;rw[If,lrs] at I;have t4:=I.sm _ _ et;refine⟨_,rfl,t,_,rfl,SqT.of t4,λD hD=>Hs (K:=K) (a:=t) (xs:=rs.map V.ref) (λj σ ys H5=>∃(u v:Option V) (qs:List Addr),σ=[u,v,some (.ref E)]/\Same H4 H5/\H5 D=some (.lst ys)/\ys=qs.map V.ref/\RowsL H5 qs (Be ds j)) ⟨none,none,[],rfl,Ac hD,Ab,rfl,rfl,λi q l e=>by simp at e⟩ (λj σ ys H5 _ ⟨_,_,_,_,s5,e,_⟩=>⟨SqT.of (s5 _ _ t4),e⟩) ?_ ?_⟩
  ·rintro j x σ ys H5 T hx ⟨u,v,qs,rfl,s5,e5,rfl,hq⟩ hT;obtain⟨r,er,rfl⟩:∃r,rs[j]? =some r/\x= .ref r:=by
    rw[getElem?_map] at hx;cases q:rs[j]? with
    |none=>rw[q] at hx;cases hx
    |some z=>rw[q] at hx;exact⟨z,rfl,(Option.some.inj hx).symm⟩
   have li:j<ds.length:=by rw[<-lrs];exact(List.getElem?_eq_some_iff.mp er).1
   obtain⟨dd,ed⟩:∃dd,ds[j]? =some dd:=⟨_,getElem?_eq_getElem li⟩
   have s6:=Ac (o:= .tup [.int (j:Int),.ref r]) hT;have T6:=Ab (H:=H5) (a:=T) (o:= .tup [.int (j:Int),.ref r]);generalize upd H5 T (.tup [.int (j:Int),.ref r])=H6 at s6 T6;have S6:=s5.trans s6;have r6:=S6 _ _ (I.sm _ _ (hdd.2 j r dd er ed));have E6:=S6 _ _ I.hE;have D6:=s6 _ _ e5;have ll:=Gp ds j;have lq:=hq.1;refine⟨T,_,rfl,SqT.of T6,rfl,_,_,rfl,_,_,rfl,rfl,?_⟩;cases dd with
   |come m n a b w'=>
    have ev:=I.ev j li;have ej:Kb ds ds.length j=(endOf ds j n:Int):=by
     unfold Kb;rw[ed];dsimp only;have:=end_le ds j n;split
     ·rfl
     ·have:endOf ds j n=ds.length:=by omega
      rw[this]
    rw[ej] at ev;refine⟨_,rfl,r,_,0,_,rfl,rfl,SqT.of r6,Am (j:=0) rfl,rfl,_,rfl,Ew ?_⟩;refine⟨_,rfl,r,_,2,_,rfl,rfl,SqT.of r6,Am (j:=2) rfl,_,rfl,_,rfl,_,rfl,E,_,_,_,rfl,rfl,SqL.of E6,Am (by rw[getElem?_map,ev];rfl),_,rfl,r,_,3,_,rfl,rfl,SqT.of r6,Am (j:=3) rfl,_,rfl,r,_,4,_,rfl,rfl,SqT.of r6,Am (j:=4) rfl,_,rfl,r,_,5,_,rfl,rfl,SqT.of r6,Am (j:=5) rfl,small (by simp),λp hp=> ?_⟩;have s7:=Ac (o:= .tup (Life.vs ⟨n,j,endOf ds j n,a,b,w'⟩)) hp;have p7:=Ab (H:=H6) (a:=p) (o:= .tup (Life.vs ⟨n,j,endOf ds j n,a,b,w'⟩));have D7:=s7 _ _ D6;have tf:Tup (upd H6 p (.tup (Life.vs ⟨n,j,endOf ds j n,a,b,w'⟩))) (upd (upd H6 p (.tup (Life.vs ⟨n,j,endOf ds j n,a,b,w'⟩))) D (.lst (qs.map V.ref++[.ref p]))):=Tup.lst D7;have lf:Bx ds j=[⟨n,j,endOf ds j n,a,b,w'⟩]:=by unfold Bx;rw[ed]
    refine⟨D7,Ap (by simp;omega),_,_,qs++[p],rfl,λc o e=> ?_,Ab,by rw[map_append];rfl,?_⟩
    ·rw[Ai (Al e hD)];exact s7 _ _ (S6 _ _ e)
    ·show RowsL _ _ (Be ds j++Bx ds j);rw[lf];exact(hq.tup (((Tup.of s6).trans (Tup.of s7)).trans tf)).snoc (tf _ _ p7)
   |go m n=>
    refine⟨_,rfl,r,_,0,_,rfl,rfl,SqT.of r6,Am (j:=0) rfl,rfl,_,rfl,C4 ?_⟩;have lf:Bx ds j=[]:=by unfold Bx;rw[ed]
    refine⟨_,_,qs,rfl,S6,D6,rfl,?_⟩;show RowsL _ _ (Be ds j++Bx ds j);rw[lf,Qc9];exact hq.tup (Tup.of s6)
  ·rintro σ ys H5 ⟨u,v,qs,rfl,s5,e5,rfl,hq⟩;rw[If,lrs] at hq;refine⟨D,_,rfl,.inl ⟨SqL.of e5,λp hp=> ?_⟩⟩;have s6:=Ac (o:= .tup (qs.map V.ref)) hp;exact k p _ ((I.sm.trans s5).trans s6) ⟨qs,Ab,hq.tup (Tup.of s6)⟩
def tau(st:S3)(i:Nat):Int:=st.tops.getD i 0
def sig(st:S3)(i:Nat):Int:=st.sides.getD i 0
structure UF(N:Nat)(P:List T4)(st:S3):Prop where
 inn:InN N P
 lt:st.tops.length=N
 ls:st.sides.length=N
 tp:∀i,i<N->∃r,r<N/\tau st i=(r:Int)/\tau st r=(r:Int)
 rc:∀i j,i<N->j<N->(tau st i=tau st j↔Reach P i j)
 sd:∀i,sig st i=0\/sig st i=1
 od:st.odds=(P.countP (λt=>decide (sig st t.2.1=sig st t.2.2.1)):Nat)
 co:∀f:Nat->Int,(∀v,f v=0\/f v=1)->(∀t∈P,f t.2.1≠f t.2.2.1)->∀i j,i<N->j<N->tau st i=tau st j->(sig st i=sig st j↔f i=f j)
 pn:Hj st.tops=Kh N P
theorem Uv{N i:Nat}(h:i<N):(Ft 0 N).getD i 0=(i:Int):=by
 simp[Ft,getD,h]
theorem Dn{N i:Nat}(h:i<N):tau (Df N) i=(i:Int):=by
 unfold tau Df;exact Uv h
theorem Xn{N i:Nat}:sig (Df N) i=0:=by
 unfold sig Df;by_cases h:i<N<;> simp[getD,getElem?_replicate,h]
theorem Yi{a b:Nat}(h:Reach [] a b):a=b:=by
 obtain⟨x,hx⟩:=h;cases hx with
 |nil=>rfl
 |snoc _ q=>simp[Bp] at q
theorem uf_start(N:Nat):UF N [] (Df N):=by
 refine⟨λt h=>by simp at h,by simp[Df,Ft],by simp[Df],λi h=>⟨i,h,Dn h,Dn h⟩,λi j hi hj=> ?_,λi=> .inl Xn,rfl,λf _ _ i j hi hj e=> ?_,?_⟩
 ·rw[Dn hi,Dn hj];constructor
  ·intro e;have:i=j:=by omega
   subst this;exact .refl
  ·intro r;rw[Yi r]
 ·rw[Dn hi,Dn hj] at e;have:i=j:=by omega
  subst this;simp
 ·rw[cls_nil];unfold Hj;have e1:(Df N).tops.length=N:=by simp[Df,Ft]
  rw[e1];have:((List.range N).filter λp=>decide ((Df (N:Int)).tops.getD p 0=((p:Nat):Int)))=List.range N:=by
   rw[List.filter_eq_self];intro p hp;have:=Dn (mem_range.mp hp);unfold tau at this;rw[this];simp
  rw[this,Qe0]
theorem Of(tops:List Int):Hj tops=(List.range tops.length).countP λp=>decide (tops.getD p 0=(p:Nat)):=by
 unfold Hj;rw[List.countP_eq_length_filter]
theorem O4{tops:List Int}{k t:Int}{i:Nat}(h:i<tops.length):(Cs tops k t).getD i 0=if tops.getD i 0=t then k else tops.getD i 0:=by
 simp[Cs,getD,h]
theorem Nm{tops sides:List Int}{t u:Int}{i:Nat}(h:i<tops.length)(h':i<sides.length):(Bn tops sides t u).getD i 0=if tops.getD i 0=t then Builtin.bitXor (sides.getD i 0) u else sides.getD i 0:=by
 simp[Bn,getD,List.getElem?_zipWith,h,h']
theorem Ox{tops sides:List Int}{t u:Int}{i:Nat}(h:¬i<tops.length):(Bn tops sides t u).getD i 0=0:=by
 simp[Bn,getD,List.getElem?_zipWith,getElem?_eq_none (le_of_not_lt h)]
theorem xor_bits:Builtin.bitXor 0 0=0/\Builtin.bitXor 0 1=1/\Builtin.bitXor 1 0=1/\Builtin.bitXor 1 1=0:=by decide+kernel
theorem Im{s u:Int}(hs:s=0\/s=1)(hu:u=0\/u=1):(Builtin.bitXor s u=0\/Builtin.bitXor s u=1)/\(Builtin.bitXor s u=0↔s=u):=by
 obtain⟨a,b,c,d⟩:=xor_bits;rcases hs with rfl|rfl<;> rcases hu with rfl|rfl
 ·rw[a];simp
 ·rw[b];simp
 ·rw[c];simp
 ·rw[d];simp
theorem turn_bit{s t:Int}:(Bo s t=0\/Bo s t=1)/\(Bo s t=1↔s=t):=by
 unfold Bo;split
 ·rename_i h;simp[h]
 ·rename_i h;simp[h]
theorem uf_snoc{N:Nat}{P:List T4}{st:S3}{t:T4}(U:UF N P st)(h1:t.2.1<N)(h2:t.2.2.1<N)(N24:N<=24):UF N (P++[t]) (Eh st t.2.1 t.2.2.1).1:=by
 have inn':InN N (P++[t]):=λu hu=>by
  rcases mem_append.mp hu with q|q
  ·exact U.inn u q
  ·rw[mem_singleton.mp q];exact⟨h1,h2⟩
 by_cases e:tau st t.2.1=tau st t.2.2.1
 ·have hj:(Eh st t.2.1 t.2.2.1).1=⟨st.tops,st.sides,st.odds+Bo (sig st t.2.1) (sig st t.2.2.1)⟩:=by
   unfold Eh;have e':st.tops.getD t.2.1 0=st.tops.getD t.2.2.1 0:=e;simp only[e',Qe7];rfl
  rw[hj];have hr:=(U.rc _ _ h1 h2).mp e;have sn:∀a b,Reach (P++[t]) a b↔Reach P a b:=λa b=>by
   rw[reach_snoc];constructor
   ·rintro(h|⟨h,h'⟩|⟨h,h'⟩)
    ·exact h
    ·exact(h.trans hr).trans h'
    ·exact(h.trans hr.symm).trans h'
   ·exact .inl
  refine⟨inn',U.lt,U.ls,U.tp,λi j hi hj=>by rw[sn];exact U.rc i j hi hj,U.sd,?_,λf f2 fp=>U.co f f2 (λu hu=>fp u (mem_append_left _ hu)),?_⟩
  ·show st.odds+Bo (sig st t.2.1) (sig st t.2.2.1)=_;rw[countP_append,U.od];show _=(((P.countP λt=>decide (sig st t.2.1=sig st t.2.2.1))+_:Nat):Int);rw[List.countP_singleton];unfold Bo;by_cases g:sig st t.2.1=sig st t.2.2.1
   ·rw[Qa2 g,Qa2 (decide_eq_true (by exact g))];rfl
   ·rw[Qa1 g,Qa1 (by exact λz=>g (Qc2 z))];rfl
  ·rw[R4 hr];exact U.pn
 ·have hkt:(kt st.tops (tau st t.2.1) (tau st t.2.2.1)=(tau st t.2.1,tau st t.2.2.1)\/kt st.tops (tau st t.2.1) (tau st t.2.2.1)=(tau st t.2.2.1,tau st t.2.1)):=by
   unfold kt;split
   ·exact .inl rfl
   ·exact .inr rfl
  obtain⟨kp,tk,hk,hK⟩:∃kp tk,kt st.tops (tau st t.2.1) (tau st t.2.2.1)=(kp,tk)/\((kp=tau st t.2.1/\tk=tau st t.2.2.1)\/(kp=tau st t.2.2.1/\tk=tau st t.2.1)):=by
   rcases hkt with h|h
   ·exact⟨_,_,h,.inl ⟨rfl,rfl⟩⟩
   ·exact⟨_,_,h,.inr ⟨rfl,rfl⟩⟩
  obtain⟨u,hu⟩:∃u,u=Bo (sig st t.2.1) (sig st t.2.2.1):=⟨_,rfl⟩
  obtain⟨u2,u1⟩:=turn_bit (s:=sig st t.2.1) (t:=sig st t.2.2.1);rw[<-hu] at u2 u1;obtain⟨st',hst⟩:∃st',st'=(Eh st t.2.1 t.2.2.1).1:=⟨_,rfl⟩
  have hj:st'=⟨Cs st.tops kp tk,Bn st.tops st.sides tk u,st.odds⟩:=by
   rw[hst,hu];unfold Eh;have e':¬(st.tops.getD t.2.1 0=st.tops.getD t.2.2.1 0):=e;have hk':kt st.tops (st.tops.getD t.2.1 0) (st.tops.getD t.2.2.1 0)=(kp,tk):=hk;simp only[Qa1 e',hk'];rfl
  rw[<-hst];have T':∀i,i<N->tau st' i=if tau st i=tk then kp else tau st i:=λi hi=>by
   rw[hj];exact O4 (by rw[U.lt];exact hi)
  have S':∀i,i<N->sig st' i=if tau st i=tk then Builtin.bitXor (sig st i) u else sig st i:=λi hi=>by
   rw[hj];exact Nm (by rw[U.lt];exact hi) (by rw[U.ls];exact hi)
  have O':∀i,¬i<N->sig st' i=0:=λi hi=>by
   rw[hj];exact Ox (by rw[U.lt];exact hi)
  have odds':st'.odds=st.odds:=by rw[hj]
  have l1:st'.tops.length=N:=by rw[hj];simp[Cs,U.lt]
  have l2:st'.sides.length=N:=by rw[hj];simp[Bn,U.lt,U.ls]
  have tops':st'.tops=Cs st.tops kp tk:=by rw[hj]
  clear hj hst;have kne:kp≠tk:=by rcases hK with⟨a,b⟩|⟨a,b⟩<;> rw[a,b]<;> intro z<;> first|exact e z|exact e z.symm
  have rc':∀i j,i<N->j<N->(tau st' i=tau st' j↔(tau st i=tau st j\/(tau st i=tau st t.2.1/\tau st t.2.2.1=tau st j)\/(tau st i=tau st t.2.2.1/\tau st t.2.1=tau st j))):=λi j hi hj=>by
   rw[T' i hi,T' j hj];rcases hK with⟨rfl,rfl⟩|⟨rfl,rfl⟩<;> split<;> split<;> omega
  have nr:¬Reach P t.2.1 t.2.2.1:=λr=>e ((U.rc _ _ h1 h2).mpr r);have x2:=U.sd;have sd':∀i,sig st' i=0\/sig st' i=1:=λi=>by
   by_cases hi:i<N
   ·rw[S' i hi];split
    ·exact(Im (U.sd i) u2).1
    ·exact U.sd i
   ·exact .inl (O' i hi)
  have same':∀i j,i<N->j<N->tau st i=tau st j->(sig st' i=sig st' j↔sig st i=sig st j):=λi j hi hj q=>by
   rw[S' i hi,S' j hj,q];split
   ·have a:=Im (U.sd i) u2;have b:=Im (U.sd j) u2;have:=U.sd i;have:=U.sd j;omega
   ·exact Iff.rfl
  have new':∀i j,i<N->j<N->tau st i=tau st t.2.1->tau st j=tau st t.2.2.1->(sig st' i=sig st' j↔((sig st i=sig st t.2.1)↔¬(sig st j=sig st t.2.2.1))):=λi j hi hj p q=>by
   have s1:=U.sd i;have s2:=U.sd j;have s3:=U.sd t.2.1;have s4:=U.sd t.2.2.1;rw[S' i hi,S' j hj,p,q];rcases hK with⟨rfl,rfl⟩|⟨rfl,rfl⟩
   ·rw[Qa1 e,Qa2 rfl];have b:=Im s2 u2;omega
   ·rw[Qa2 rfl,Qa1 (λz=>e z.symm)];have b:=Im s1 u2;omega
  have inP:∀u∈P,tau st u.2.1=tau st u.2.2.1:=λu hu=>(U.rc _ _ (U.inn u hu).1 (U.inn u hu).2).mpr (.step (Gf hu));refine⟨inn',l1,l2,λi hi=> ?_,λi j hi hj=> ?_,sd',?_,λf f2 fp i j hi hj q=> ?_,?_⟩
  ·obtain⟨r,hr,e1,e2⟩:=U.tp i hi;by_cases g:tau st i=tk
   ·obtain⟨k,hk1,ek1,ek2⟩:∃k,k<N/\kp=(k:Int)/\tau st k=(k:Int):=by
     rcases hK with⟨a,_⟩|⟨a,_⟩
     ·obtain⟨k,x,y,z⟩:=U.tp _ h1;exact⟨k,x,a.trans y,z⟩
     ·obtain⟨k,x,y,z⟩:=U.tp _ h2;exact⟨k,x,a.trans y,z⟩
    refine⟨k,hk1,by rw[T' i hi,Qa2 g,ek1],?_⟩;rw[T' k hk1,Qa1 (by rw[ek2,<-ek1];exact kne),ek2]
   ·refine⟨r,hr,by rw[T' i hi,Qa1 g,e1],?_⟩;rw[T' r hr,Qa1 (by rw[e2,<-e1];exact g),e2]
  ·rw[rc' i j hi hj,reach_snoc,U.rc i j hi hj,U.rc i _ hi h1,U.rc _ j h2 hj,U.rc i _ hi h2,U.rc _ j h1 hj]
  ·rw[odds',U.od,countP_append,List.countP_singleton,Qa1 (λz=> ?_)]
   ·rw[Nat.add_zero]
    congr 1
    refine countP_congr λu hu=> ?_;rw[Qa4,Qa4];exact(same' _ _ (U.inn u hu).1 (U.inn u hu).2 (inP u hu)).symm
   ·have:=(new' _ _ h1 h2 rfl rfl).mp (Qc2 z);simp at this
  ·have ft:=fp t (mem_append_right _ (mem_singleton.mpr rfl));have fP:∀u∈P,f u.2.1≠f u.2.2.1:=λu hu=>fp u (mem_append_left _ hu);have co:=U.co f f2 fP;have a1:=f2 i;have a2:=f2 j;have a3:=f2 t.2.1;have a4:=f2 t.2.2.1;rcases(rc' i j hi hj).mp q with g|⟨g,g'⟩|⟨g,g'⟩
   ·rw[same' i j hi hj g];exact co i j hi hj g
   ·rw[new' i j hi hj g g'.symm,co i _ hi h1 g,co j _ hj h2 g'.symm];omega
   ·rw[eq_comm,new' j i hj hi g'.symm g,co j _ hj h1 g'.symm,co i _ hi h2 g];omega
  ·have c:=Ru (N:=N) h1 h2 nr;have p:=U.pn;rw[Of,U.lt] at p;rw[Of,l1];obtain⟨k,hk1,ek1,ek2⟩:∃k,k<N/\tk=(k:Int)/\tau st k=(k:Int):=by
    rcases hK with⟨_,a⟩|⟨_,a⟩
    ·obtain⟨k,x,y,z⟩:=U.tp _ h2;exact⟨k,x,a.trans y,z⟩
    ·obtain⟨k,x,y,z⟩:=U.tp _ h1;exact⟨k,x,a.trans y,z⟩
   obtain⟨k',hk',ek',ek''⟩:∃k,k<N/\kp=(k:Int)/\tau st k=(k:Int):=by
    rcases hK with⟨a,_⟩|⟨a,_⟩
    ·obtain⟨k,x,y,z⟩:=U.tp _ h1;exact⟨k,x,a.trans y,z⟩
    ·obtain⟨k,x,y,z⟩:=U.tp _ h2;exact⟨k,x,a.trans y,z⟩
   have:=Ly (p:=λp=>decide (st.tops.getD p 0=(p:Nat))) (q:=λp=>decide (st'.tops.getD p 0=(p:Nat))) (x:=k) (N:=N) hk1 (decide_eq_true ek2) (λv hv=> ?_)
   ·omega
   ·rw[Qa4,Qa4];have:=T' v hv;unfold tau at this ek2 ek'';rw[this];split
    ·rename_i g;constructor
     ·intro z;have:v=k':=by omega
      subst this;rw[ek''] at g;omega
     ·intro z;omega
    ·rename_i g;constructor
     ·intro z;exact⟨z,λw=>by subst w;omega⟩
     ·exact λz=>z.1
def stF(N:Nat)(P:List T4):S3:=P.foldl (λst t=>(Eh st t.2.1 t.2.2.1).1) (Df N)
theorem Zp{N:Nat}{P:List T4}{t:T4}:stF N (P++[t])=(Eh (stF N P) t.2.1 t.2.2.1).1:=by
 unfold stF;rw[List.foldl_append];rfl
theorem We{N:Nat}(N24:N<=24):∀{T P:List T4} {st:S3},UF N P st->InN N T->UF N (P++T) (T.foldl (λst t=>(Eh st t.2.1 t.2.2.1).1) st)
 |[],P,st,U,_=>by rw[Qc9];exact U
 |t::T,P,st,U,h=>by
  have ht:=h t (Qa9 ..);have:=We N24 (uf_snoc U ht.1 ht.2 N24) (T:=T) λu hu=>h u (Qa8 _ hu);rw[append_assoc] at this;exact this
theorem Th{N:Nat}(N24:N<=24){P:List T4}(h:InN N P):UF N P (stF N P):=We (T:=P) N24 (uf_start N) h
theorem UF.two{N:Nat}{P:List T4}{st:S3}(U:UF N P st):st.odds=0↔Two P:=by
 constructor
 ·intro h;have h0:P.countP (λt=>decide (sig st t.2.1=sig st t.2.2.1))=0:=by have:=U.od;omega
  refine⟨sig st,U.sd,λt ht e=> ?_⟩;have:=List.countP_eq_zero.mp h0 t ht;exact this (decide_eq_true e)
 ·rintro⟨f,f2,fp⟩;rw[U.od,List.countP_eq_zero.mpr]
  ·rfl
  intro t ht z;have ht':=U.inn t ht;have e:=(U.rc _ _ ht'.1 ht'.2).mpr (.step (Gf ht));exact fp t ht ((U.co f f2 fp _ _ ht'.1 ht'.2 e).mp (Qc2 z))
theorem tops_map{N:Nat}{P:List T4}{st:S3}(U:UF N P st):st.tops=(List.range N).map (tau st):=by
 apply List.ext_getElem
 ·rw[U.lt];simp
 ·intro i h h';simp[tau,getD,h]
theorem UF.size{N p:Nat}{P S:List T4}{st:S3}(U:UF N P st)(hm:∀u,u∈P↔u∈S)(hp:p<N)(hN:N<=60):st.tops.count (tau st p)=(Az N S p).length:=by
 have hS:InN N S:=λu hu=>U.inn u ((hm u).mpr hu);rw[tops_map U,List.count_eq_countP,List.countP_map];have e:Az N S p=(List.range N).filter λv=>decide (v∈Az N S p):=by
  unfold Az;refine filter_congr λv hv=> ?_;simp[hv,mem_range.mp hv]
 rw[e,<-List.countP_eq_length_filter];refine countP_congr λv hv=> ?_;have hv:=mem_range.mp hv;have h1:=Cp (v:=v) hS hp hN;rw[Qa4,h1];show (tau st v==tau st p)=true↔_;rw[beq_iff_eq,U.rc v p hv hp];have sw:Reach P v p↔Reach S p v:=⟨λr=>r.symm.mono λt=>(hm t).mp,λr=>(r.mono λt=>(hm t).mpr).symm⟩
 rw[sw];exact⟨λr=>⟨hv,r⟩,λr=>r.2⟩
theorem UF.joined{N p q:Nat}{P S:List T4}{st:S3}(U:UF N P st)(hm:∀u,u∈P↔u∈S)(hp:p<N)(hq:q<N)(hN:N<=60):tau st p=tau st q↔q∈Az N S p:=by
 have hS:InN N S:=λu hu=>U.inn u ((hm u).mpr hu);rw[U.rc p q hp hq,Cp hS hp hN];exact⟨λr=>⟨hq,r.mono λt=>(hm t).mp⟩,λr=>r.2.mono λt=>(hm t).mpr⟩
theorem Lv{N p q u:Nat}{S:List T4}(h:(Az N S p)[0]? =some q)(hu:u∈Az N S p):¬u<q:=by
 intro hlt;have pw:(Az N S p).Pairwise (·<·):=Pairwise.filter _ Qf5;generalize Az N S p=l at h hu pw;cases l with
 |nil=>simp at hu
 |cons x l=>
  simp at h;subst h;rcases Qa6.mp hu with rfl|hu
  ·omega
  ·have:=(pairwise_cons.mp pw).1 u hu;omega
theorem Uq{N:Nat}{S:List T4}(hS:InN N S)(hN:N<=60):(lsF N S).length=Kh N S:=by
 unfold lsF Kh;rw[<-List.countP_eq_length_filter];refine countP_congr λp hp=> ?_;have hp:=mem_range.mp hp;rw[Qa4,least_iff];obtain⟨q,hq,hl,hr⟩:=Nq hS hp hN;have qN:=Ha hl;constructor
 ·intro h u hu r;rw[h] at hq;cases hq;have ep:=Kj hS (lt_trans hu hp) hp hN r;have hu':u∈Az N S p:=ep▸E1 hS (lt_trans hu hp) hN;exact Lv h hu' hu
 ·intro h;have:¬q<p:=λz=>h q z hr;have hp':p∈Az N S p:=E1 hS hp hN;rw[hq];by_cases e:q=p
  ·rw[e]
  ·exact absurd (Lv hq hp') (by omega)
theorem UF.parts{N:Nat}{P S:List T4}{st:S3}(U:UF N P st)(hm:∀u,u∈P↔u∈S)(hN:N<=60):Hj st.tops=(lsF N S).length:=by
 have hS:InN N S:=λu hu=>U.inn u ((hm u).mpr hu);rw[U.pn,Uq hS hN];exact Jg λa b _ _=>⟨λr=>r.mono λt=>(hm t).mp,λr=>r.mono λt=>(hm t).mpr⟩
theorem N8{H H':Hp}(s:Same H H'):TupS H H':=λb xs e=>s _ _ e
theorem TkAt.same{C:Addr}{H H':Hp}{x S:Addr}{sts:List S3}(h:TkAt C H x S sts)(s:Same H H'):TkAt C H' x S sts:=by
 obtain⟨⟨dx,e1⟩,⟨rs,e2,e3⟩,l⟩:=h;exact⟨⟨dx,s _ _ e1⟩,⟨rs,s _ _ e2,e3.tup (N8 s)⟩,l⟩
theorem at0{x:V}{xs:List V}:atI (x::xs) 0=some x:=Am (j:=0) rfl
theorem at2{x y z:V}{xs:List V}:atI (x::y::z::xs) 2=some z:=Am (j:=2) rfl
def tTailJ(C:Addr):TS:=λD σ H=>∃(x S a b:Addr) (sts:List S3) (nw:S3) (i j:Int) (bb:Bool),σ=[some (.ref x),some (.int i),some (.int j),some (.ref a),some (.ref b),some (.int nw.odds),some (.bl bb)]/\TkAt C H x S sts/\sts.length<=160/\H a=some (.tup (nw.tops.map V.int))/\H b=some (.tup (nw.sides.map V.int))/\
 ∀H',(∀c o,H c=some o->c≠S->H' c=some o)->TkAt C H' x S (sts++[nw])->D.rt (.bl bb) H'
theorem scInit:Av ["self","many"] ["self","many"] (Ah Oj):=⟨rfl,rfl,rfl,by decide+kernel,rfl,by decide+kernel,by decide+kernel⟩
theorem ok_Init{f:Addr}{fd:FuncData}(F:Fun K "__init__" "Takes.__init__" Oj f fd)(T:Txt K mg C I):
  FnOk P w K mg base CX0 1 f fd ["self","many"] (U3 C):=by
 refine F.ok scInit (λvs H Q E h=> ?_) (λcdv A outer s H vs Q E hr h=> ?_)
 ·obtain⟨_,_,_,rfl,_⟩:=h;rfl
 ·obtain⟨x,dx,m,rfl,hx,m1,m2,k⟩:=h;refine⟨_,Ag (Zu (pv 0) (Bh (Aa (A1 (Aa (Bb (Md rfl) (by rfl) T.tuple (by decide+kernel) (Aa (Bb Sx (by rfl) T.range (by decide+kernel) (Aa (pv 1) Ad)) Ad)) (Aa (Au op_repT2 (A1 (Aa Af Ad)) (pv 1)) (Aa Af Ad)))) Ad)) rfl),?_⟩;refine⟨_,rfl,m,rfl,λg hg=>⟨g,m,rfl,Ab,by omega,by omega,λa H1 s1 e1=> ?_⟩⟩;have s1':=(Ac (o:= .rng 0 m) hg).trans s1;refine⟨small (by simp),λz hz=>⟨_,rfl,z,.int 0,m,rfl,rfl,Ab,m1,by omega,λb H2 s2 e2=>⟨small (by simp),λr hr'=>⟨small (by simp),λS hS=> ?_⟩⟩⟩⟩;have sA:=(s1'.trans (Ac (o:= .tup [.int 0]) hz)).trans s2;have sB:=sA.trans (Ac (o:= .tup [.ref a,.ref b,.int 0]) hr');have sC:=sB.trans (Ac (o:= .lst [.ref r]) hS);have eS:=Ab (H:=upd H2 r (.tup [.ref a,.ref b,.int 0])) (a:=S) (o:= .lst [.ref r]);have er:=Ac (o:= .lst [.ref r]) hS _ _ (Ab (H:=H2) (a:=r) (o:= .tup [.ref a,.ref b,.int 0]));have ea:=Ac (o:= .lst [.ref r]) hS _ _ (Ac (o:= .tup [.ref a,.ref b,.int 0]) hr' _ _ (s2 _ _ (Ac (o:= .tup [.int 0]) hz _ _ e1)));have eb:=Ac (o:= .lst [.ref r]) hS _ _ (Ac (o:= .tup [.ref a,.ref b,.int 0]) hr' _ _ e2);have nS:H S=none:=none_of sB hS;generalize upd (upd H2 r (.tup [.ref a,.ref b,.int 0])) S (.lst [.ref r])=H3 at sC eS er ea eb;have x3:=sC _ _ hx;have xS:x≠S:=Ar x3 eS (by intro z;cases z);have xr:x≠r:=Ar x3 er (by intro z;cases z);have xa:x≠a:=Ar x3 ea (by intro z;cases z);have xb:x≠b:=Ar x3 eb (by intro z;cases z);refine⟨_,rfl,x,C,dx,[],rfl,x3,T.cl,T.nS,by simp,?_⟩;refine k S _ nS ⟨⟨dx,Ab⟩,⟨[r],by rw[Ai xS.symm];exact eS,⟨a,b,by rw[Ai xr.symm];exact er,by rw[Ai xa.symm];exact ea,by rw[Ai xb.symm,eb];simp[Df]⟩,trivial⟩,by simp⟩ λc o e n=>by rw[Ai n];exact sC _ _ e
theorem scShown:Av ["self"] ["self"] (Ah Jm):=⟨rfl,rfl,rfl,by decide+kernel,rfl,by decide+kernel,by decide+kernel⟩
theorem Y5{f:Addr}{fd:FuncData}(F:Fun K "shown" "Takes.shown" Jm f fd)(T:Txt K mg C I):
  FnOk P w K mg base CX0 1 f fd ["self"] (Fr C):=by
 refine F.ok scShown (λvs H Q E h=> ?_) (λcdv A outer s H vs Q E hr h=> ?_)
 ·obtain⟨_,_,_,_,rfl,_⟩:=h;rfl
 ·obtain⟨x,S,pre,st,rfl,hT,k⟩:=h;refine⟨_,Ag (As (Ao Bc (Qg (pv 0) rfl) (Mj Hh Af) (λ_ _=>rfl))),?_⟩;obtain⟨⟨dx,e1⟩,⟨rs,e2,e3⟩,l⟩:=id hT;obtain⟨rs',r,rfl,h1,h2⟩:=e3.last;refine⟨_,rfl,x,C,dx,_,_,rfl,e1,T.cl,T.nS,Kz S,_,rfl,S,_,-1,_,rfl,rfl,SqL.of e2,?_,k r h1⟩;rw[map_append];exact at_last
theorem scTop:Av ["self","place"] ["self","place"] (Ah Xs):=⟨rfl,rfl,rfl,by decide+kernel,rfl,by decide+kernel,by decide+kernel⟩
theorem ok_Top{f:Addr}{fd:FuncData}(F:Fun K "top" "Takes.top" Xs f fd)(T:Txt K mg C I){gShown:Addr}{fShown:FuncData}(bShown:Binds K fShown ["self"] [])(hShown:Fy K C "shown" gShown)(GShown:FnOk P w K mg base CX0 1 gShown fShown ["self"] (Fr C)):
  FnOk P w K mg base CX0 2 f fd ["self","place"] (Vz C):=by
 refine F.ok scTop (λvs H Q E h=> ?_) (λcdv A outer s H vs Q E hr h=> ?_)
 ·obtain⟨_,_,_,_,_,_,rfl,_⟩:=h;rfl
 ·obtain⟨x,S,pre,st,n,i,rfl,hT,ok,hi,k⟩:=h;refine⟨_,Ag (As (Ao At (Ao At (Di (pv 0) T.cl hShown GShown hr bShown .nil C7) Af (λ_ _=>rfl)) (pv 1) (λ_ _=>rfl))),?_⟩;obtain⟨⟨dx,e1⟩,_,_⟩:=id hT;refine⟨_,rfl,x,dx,_,rfl,e1,Cm S (by decide+kernel),x,S,pre,st,rfl,hT,λr hst=> ?_⟩;obtain⟨a,b,h1,h2,h3⟩:=hst;exact⟨r,_,0,_,rfl,rfl,SqT.of h1,at0,_,rfl,_,_,_,_,rfl,rfl,SqT.of h2,Dx (by rw[ok.t];exact hi),k⟩
theorem scOdd:Av ["self"] ["self"] (Ah Xq):=⟨rfl,rfl,rfl,by decide+kernel,rfl,by decide+kernel,by decide+kernel⟩
theorem ok_Odd{f:Addr}{fd:FuncData}(F:Fun K "odd" "Takes.odd" Xq f fd)(T:Txt K mg C I){gShown:Addr}{fShown:FuncData}(bShown:Binds K fShown ["self"] [])(hShown:Fy K C "shown" gShown)(GShown:FnOk P w K mg base CX0 1 gShown fShown ["self"] (Fr C)):
  FnOk P w K mg base CX0 2 f fd ["self"] (spOdd C):=by
 refine F.ok scOdd (λvs H Q E h=> ?_) (λcdv A outer s H vs Q E hr h=> ?_)
 ·obtain⟨_,_,_,_,rfl,_⟩:=h;rfl
 ·obtain⟨x,S,pre,st,rfl,hT,k⟩:=h;refine⟨_,Ag (As (Ao At (Di (pv 0) T.cl hShown GShown hr bShown .nil C7) Af (λ_ _=>rfl))),?_⟩;obtain⟨⟨dx,e1⟩,_,_⟩:=id hT;refine⟨_,rfl,x,dx,_,rfl,e1,Cm S (by decide+kernel),x,S,pre,st,rfl,hT,λr hst=> ?_⟩;obtain⟨a,b,h1,h2,h3⟩:=hst;exact⟨r,_,2,_,rfl,rfl,SqT.of h1,at2,k⟩
theorem scJoins:Av ["self"] ["self"] (Ah Jx):=⟨rfl,rfl,rfl,by decide+kernel,rfl,by decide+kernel,by decide+kernel⟩
theorem Yw{f:Addr}{fd:FuncData}(F:Fun K "joins" "Takes.joins" Jx f fd)(T:Txt K mg C I):
  FnOk P w K mg base CX0 1 f fd ["self"] (Kw C):=by
 refine F.ok scJoins (λvs H Q E h=> ?_) (λcdv A outer s H vs Q E hr h=> ?_)
 ·obtain⟨_,_,_,rfl,_⟩:=h;rfl
 ·obtain⟨x,S,sts,rfl,hT,k⟩:=h;refine⟨_,Ag (As (Au Fv (A0 Ay (by rfl) T.len PySem.boot_len (Aa (Qg (pv 0) rfl) Ad)) Af)),?_⟩;obtain⟨⟨dx,e1⟩,⟨rs,e2,e3⟩,l⟩:=id hT;refine⟨_,rfl,x,C,dx,_,_,rfl,e1,T.cl,T.nS,Kz S,S,_,rfl,.inl (SqL.of e2),_,_,rfl,rfl,?_⟩;show Q (.int (((rs.map V.ref).length:Int) - 1)) H;rw[If,e3.len];exact k
theorem scSize:Av ["self","place"] ["self","place"] (Ah Oi):=⟨rfl,rfl,rfl,by decide+kernel,rfl,by decide+kernel,by decide+kernel⟩
theorem ok_Size{f:Addr}{fd:FuncData}(F:Fun K "size" "Takes.size" Oi f fd)(T:Txt K mg C I){gShown:Addr}{fShown:FuncData}(bShown:Binds K fShown ["self"] [])(hShown:Fy K C "shown" gShown)(GShown:FnOk P w K mg base CX0 2 gShown fShown ["self"] (Fr C)){gTop:Addr}{fTop:FuncData}(bTop:Binds K fTop ["self","place"] [])(hTop:Fy K C "top" gTop)(GTop:FnOk P w K mg base CX0 2 gTop fTop ["self","place"] (Vz C)):
  FnOk P w K mg base CX0 3 f fd ["self","place"] (Tr C):=by
 refine F.ok scSize (λvs H Q E h=> ?_) (λcdv A outer s H vs Q E hr h=> ?_)
 ·obtain⟨_,_,_,_,_,_,rfl,_⟩:=h;rfl
 ·obtain⟨x,S,pre,st,n,i,rfl,hT,ok,hi,k⟩:=h;refine⟨_,Ag (As (De plainAttrs_tuple slot_tuple_count type_tuple_count Jj (Ao At (Di (pv 0) T.cl hShown GShown hr bShown .nil C7) Af (λ_ _=>rfl)) (Aa (Gy (pv 0) T.cl hTop GTop hr bTop .nil C7 (Aa (pv 1) Ad)) Ad))),?_⟩;obtain⟨⟨dx,e1⟩,_,_⟩:=id hT;refine⟨_,rfl,x,dx,_,rfl,e1,Cm S (by decide+kernel),x,S,pre,st,rfl,hT,λr hst=> ?_⟩;obtain⟨a,b,h1,h2,h3⟩:=hst;refine⟨r,_,0,_,rfl,rfl,SqT.of h1,at0,.inr (.inl ⟨rfl,.inr ⟨_,h2⟩⟩),_,rfl,x,dx,_,rfl,e1,Cm S (by decide+kernel),_,rfl,x,S,pre,st,n,i,rfl,hT,ok,hi,?_⟩;exact⟨a,st.tops,_,rfl,rfl,SqT.of h2,k⟩
theorem scParts:Av ["self"] ["self"] (Ah Hn):=⟨rfl,rfl,rfl,by decide+kernel,rfl,by decide+kernel,by decide+kernel⟩
theorem ok_Parts{f:Addr}{fd:FuncData}(F:Fun K "parts" "Takes.parts" Hn f fd)(T:Txt K mg C I){gShown:Addr}{fShown:FuncData}(bShown:Binds K fShown ["self"] [])(hShown:Fy K C "shown" gShown)(GShown:FnOk P w K mg base CX0 1 gShown fShown ["self"] (Fr C)):
  FnOk P w K mg base CX0 2 f fd ["self"] (Pu C):=by
 refine F.ok scParts (λvs H Q E h=> ?_) (λcdv A outer s H vs Q E hr h=> ?_)
 ·obtain⟨_,_,_,_,_,rfl,_⟩:=h;rfl
 ·obtain⟨x,S,pre,st,n,rfl,hT,ok,k⟩:=h;refine⟨_,Ag (As (A0 Ay (by rfl) T.len PySem.boot_len (Aa (Cg (T:=["place","top"]) (F:=[]) (js:=[]) (cs (osc:=Ah Hn)) rfl (Iz rfl T.enumerate (Aa (Ao At (Di (pv 0) T.cl hShown GShown hr bShown .nil C7) Af (λ_ _=>rfl)) Ad)) (λ_ _ _ _ _=>Fk K 2 rfl rfl (An (Aj (i:=0) (show (["place","top"]:List Str).Nodup by decide+kernel) rfl (Or.inl rfl)) (An (Aj (i:=1) (show (["place","top"]:List Str).Nodup by decide+kernel) rfl (Or.inl rfl)) Bk))) (λ_ _ _ _ _=>Ep (Ax Bq (pv 1) (pv 0) (Aw _))) (λ_ _ _ _ _=>pv 0)) Ad))),?_⟩;obtain⟨⟨dx,e1⟩,_,_⟩:=id hT;refine⟨_,rfl,x,dx,_,rfl,e1,Cm S (by decide+kernel),x,S,pre,st,rfl,hT,λr hst=> ?_⟩;obtain⟨a,b,h1,h2,h3⟩:=hst;refine⟨r,_,0,_,rfl,rfl,SqT.of h1,at0,a,_,rfl,SqT.of h2,λD hD=>Hs (K:=K) (a:=a) (xs:=st.tops.map V.int) (λj σ ys H2=>∃u1 u2:Option V,σ=[u1,u2]/\Same H H2/\H2 D=some (.lst ys)/\ys=((List.range j).filter λp=>decide (st.tops.getD p 0=(p:Nat))).map λp=>V.int (p:Nat))
   ⟨none,none,rfl,Ac hD,Ab,rfl⟩ (λj σ ys H2 _ ⟨_,_,_,s2,e,_⟩=>⟨SqT.of (s2 _ _ h2),e⟩) ?_ ?_⟩
  ·rintro j v σ ys H2 T' hv ⟨u1,u2,rfl,s2,e2,rfl⟩ hT';obtain⟨c,hc,rfl⟩:=Qj hv;have jl:j<st.tops.length:=(List.getElem?_eq_some_iff.mp hc).1;have gd:st.tops.getD j 0=c:=by simp[getD,hc]
   have s4:=s2.trans (Ac (o:= .tup [.int (j:Nat),.int c]) hT');have T4:=Ab (H:=H2) (a:=T') (o:= .tup [.int (j:Nat),.int c]);have D4:=Ac (o:= .tup [.int (j:Nat),.int c]) hT' _ _ e2;generalize upd H2 T' (.tup [.int (j:Nat),.int c])=H4 at s4 T4 D4;refine⟨T',_,rfl,SqT.of T4,rfl,_,_,rfl,_,_,rfl,rfl,?_⟩;have ll:(((List.range j).filter λp=>decide (st.tops.getD p 0=(p:Nat))).map λp=>V.int ((p:Nat):Int)).length<=24:=by
    rw[If];refine le_trans (Qd1 _ _) ?_;have:=ok.t;have:=ok.n2;simp;omega
   refine⟨_,rfl,_,rfl,rfl,_,rfl,B7 (λg=> ?_) λg=> ?_⟩
   ·have g:c=(j:Int):=by simpa using g
    refine⟨_,rfl,D4,Ap (by omega),_,_,rfl,λb o e=>by rw[Ai (Al e hD)];exact s4 _ _ e,Ab,?_⟩;rw[range_succ,filter_append,map_append];have f1:List.filter (λp=>decide (st.tops.getD p 0=((p:Nat):Int))) [j]=[j]:=by rw[filter_cons,Qa2 (by rw[gd,g];simp)];rfl
    rw[f1];rfl
   ·have g:¬c=(j:Int):=by simpa using g
    refine⟨_,_,rfl,s4,D4,?_⟩;rw[range_succ,filter_append,map_append];have f1:List.filter (λp=>decide (st.tops.getD p 0=((p:Nat):Int))) [j]=[]:=by rw[filter_cons,Qa1 (by rw[gd];simpa using g)];rfl
    rw[f1];simp
  rintro σ ys H2 ⟨u1,u2,rfl,s2,e2,rfl⟩;refine⟨D,_,rfl,.inl (SqL.of e2),?_⟩;show Q (.int _) H2;rw[If,If];exact k H2 s2
theorem scJoin:Av ["self","one","other","tops","sides","odds","is_new"] ["self","one","other"] (Ah Ol):=⟨rfl,rfl,rfl,by decide+kernel,rfl,by decide+kernel,by decide+kernel⟩
theorem ok_Join{f:Addr}{fd:FuncData}(F:Fun K "join" "Takes.join" Ol f fd)(T:Txt K mg C I){gShown:Addr}{fShown:FuncData}(bShown:Binds K fShown ["self"] [])(hShown:Fy K C "shown" gShown)(GShown:FnOk P w K mg base CX0 2 gShown fShown ["self"] (Fr C))(GJp:Cl P w K mg base 2 "joined_parts" ["tops","sides","one","other"] (spJp K)):
  FnOk P w K mg base CX0 3 f fd ["self","one","other"] (Tl C):=by
 refine F.ok scJoin (λvs H Q E h=> ?_) (λcdv A outer s H vs Q E hr h=> ?_)
 ·obtain⟨_,_,_,_,_,_,_,rfl,_⟩:=h;rfl
 ·obtain⟨x,S,pre,st,n,i,j,rfl,hT,pl,ok,hi,hj,k⟩:=h;refine⟨_,Ae (Da (Di (pv 0) T.cl hShown GShown hr bShown .nil C7) (C8 rfl (An (Aj (i:=3) scJoin.nd rfl (Or.inl rfl)) (An (Aj (i:=4) scJoin.nd rfl (Or.inl rfl)) (An (Aj (i:=5) scJoin.nd rfl (Or.inl rfl)) Bk)))))
   (Ae (Aq (i:=6) scJoin.nd rfl (Or.inl rfl) (Cr Qu (Ao At (pv 3) (pv 1) (λ_ _=>rfl)) (Ao At (pv 3) (pv 2) (λ_ _=>rfl)) (Aw _)))
   (Ae (Br (Gg (pv 6)) (Ag (Da (A7 GJp hr (Aa (pv 3) (Aa (pv 4) (Aa (pv 1) (Aa (pv 2) Ad))))) (C8 rfl (An (Aj (i:=3) scJoin.nd rfl (Or.inl rfl)) (An (Aj (i:=4) scJoin.nd rfl (Or.inl rfl)) Bk))))) (Ag (Br (Ax Bq (Ao At (pv 4) (pv 1) (λ_ _=>rfl)) (Ao At (pv 4) (pv 2) (λ_ _=>rfl)) (Aw _)) (Ag (ps_aug (i:=5) scJoin.nd rfl (Or.inl rfl) Af ip_add)) Bd)))
   (PSs.imp' (t':=tTailJ C) (Ae (Co (De Qc3 PySem.F.slot_list_append PySem.F.type_list_append Cq (Qg (pv 0) rfl) (Aa (A1 (Aa (pv 3) (Aa (pv 4) (Aa (pv 5) Ad)))) Ad)))
   (Ag (As (pv 6)))) ?tail))),?_⟩
  case tail=>
   rintro D σ H ⟨x,S,a,b,sts,nw,i,j,bb,rfl,hT,sl,ha,hb,k⟩;obtain⟨⟨dx,e1⟩,⟨rs,e2,e3⟩,l⟩:=id hT;have rl:=e3.len;refine⟨_,rfl,x,C,dx,_,_,rfl,e1,T.cl,T.nS,Kz S,.inl ⟨rfl,_,SqL.of e2⟩,_,rfl,_,rfl,_,rfl,small (by simp),λr hr'=> ?_⟩;have s1:=Ac (o:= .tup [.ref a,.ref b,.int nw.odds]) hr';have r1:=Ab (H:=H) (a:=r) (o:= .tup [.ref a,.ref b,.int nw.odds]);have S1:=s1 _ _ e2;generalize upd H r (.tup [.ref a,.ref b,.int nw.odds])=H1 at s1 r1 S1;refine⟨S,_,_,rfl,rfl,S1,Ap (by simp;omega),?_⟩;have up:∀c o,H c=some o->c≠S->upd H1 S (.lst (rs.map V.ref++[.ref r])) c=some o:=λc o e nc=>by rw[Ai nc];exact s1 _ _ e
   have tup:TupS H1 (upd H1 S (.lst (rs.map V.ref++[.ref r]))):=λc xs e=>by rw[Ai (Ar e S1 (by intro z;cases z))];exact e
   refine⟨_,rfl,k _ up ⟨⟨dx,up _ _ e1 (Ar e1 e2 (by intro z;cases z))⟩,⟨rs++[r],by rw[Ab,map_append];rfl,StsAt.snoc ⟨a,b,tup _ _ r1,tup _ _ (s1 _ _ ha),tup _ _ (s1 _ _ hb)⟩ ((e3.tup (N8 s1)).tup tup)⟩,by simp;omega⟩⟩
  obtain⟨⟨dx,e1⟩,_,_⟩:=id hT;refine⟨_,rfl,x,dx,_,rfl,e1,Cm S (by decide+kernel),x,S,pre,st,rfl,hT,λr hst=> ?_⟩;obtain⟨a,b,h1,h2,h3⟩:=id hst;refine⟨r,_,rfl,SqT.of h1,rfl,_,_,rfl,_,_,rfl,_,_,rfl,rfl,?_⟩;have gi:=Dx (ns:=st.tops) (i:=i) (by rw[ok.t];exact hi);have gj:=Dx (ns:=st.tops) (i:=j) (by rw[ok.t];exact hj);have si:=Dx (ns:=st.sides) (i:=i) (by rw[ok.s];exact hi);have sj:=Dx (ns:=st.sides) (i:=j) (by rw[ok.s];exact hj);refine⟨_,rfl,_,rfl,a,_,_,_,rfl,rfl,SqT.of h2,gi,_,rfl,_,rfl,a,_,_,_,rfl,rfl,SqT.of h2,gj,rfl,?_⟩;by_cases hab:st.tops.getD i 0=st.tops.getD j 0
  ·have ej:Eh st i j=(⟨st.tops,st.sides,st.odds+Bo (st.sides.getD i 0) (st.sides.getD j 0)⟩,false):=by unfold Eh;simp only;rw[Qa2 hab]
   rw[ej] at k;rw[hab,decide_eq_true rfl];refine⟨_,rfl,false,rfl,C4 ?_⟩;refine⟨_,rfl,_,rfl,b,_,_,_,rfl,rfl,SqT.of h3,si,_,rfl,_,rfl,b,_,_,_,rfl,rfl,SqT.of h3,sj,rfl,_,rfl,B7 (λg=> ?_) λg=> ?_⟩
   ·have g:st.sides.getD i 0=st.sides.getD j 0:=by simpa using g
    have eg:Bo (st.sides.getD i 0) (st.sides.getD j 0)=1:=by unfold Bo;rw[Qa2 g]
    rw[eg] at k;exact⟨_,rfl,_,_,rfl,rfl,x,S,a,b,_,⟨st.tops,st.sides,st.odds+1⟩,_,_,false,rfl,hT,by simp;omega,h2,h3,k⟩
   ·have g:¬st.sides.getD i 0=st.sides.getD j 0:=by simpa using g
    have eg:Bo (st.sides.getD i 0) (st.sides.getD j 0)=0:=by unfold Bo;rw[Qa1 g]
    rw[eg,Int.add_zero] at k;exact⟨x,S,a,b,_,⟨st.tops,st.sides,st.odds⟩,_,_,false,rfl,hT,by simp;omega,h2,h3,k⟩
  ·have ej:Eh st i j=(⟨Cs st.tops (kt st.tops (st.tops.getD i 0) (st.tops.getD j 0)).1 (kt st.tops (st.tops.getD i 0) (st.tops.getD j 0)).2,Bn st.tops st.sides (kt st.tops (st.tops.getD i 0) (st.tops.getD j 0)).2 (Bo (st.sides.getD i 0) (st.sides.getD j 0)),st.odds⟩,true):=by unfold Eh;simp only;rw[Qa1 hab]
   rw[ej] at k;rw[decide_eq_false (show ¬V.int (st.tops.getD i 0)=V.int (st.tops.getD j 0) by simpa using hab)];refine⟨_,rfl,true,rfl,Ew ?_⟩;refine⟨_,rfl,_,rfl,_,rfl,_,rfl,a,b,st,n,i,j,rfl,h2,h3,ok,hi,hj,λr2 a2 b2 H1 s1 g1 g2 g3=> ?_⟩;refine⟨r2,_,rfl,SqT.of g1,rfl,_,_,rfl,_,_,rfl,rfl,?_⟩;exact⟨x,S,a2,b2,_,⟨Cs st.tops (kt st.tops (st.tops.getD i 0) (st.tops.getD j 0)).1 (kt st.tops (st.tops.getD i 0) (st.tops.getD j 0)).2,Bn st.tops st.sides (kt st.tops (st.tops.getD i 0) (st.tops.getD j 0)).2 (Bo (st.sides.getD i 0) (st.sides.getD j 0)),st.odds⟩,_,_,true,rfl,hT.same s1,by simp;omega,g2,g3,λH' u T'=>k H' (λc o e nc=>u c o (s1 _ _ e) nc) T'⟩
theorem scBack:Av ["self","thing"] ["self","thing"] (Ah Nu):=⟨rfl,rfl,rfl,by decide+kernel,rfl,by decide+kernel,by decide+kernel⟩
theorem ok_Back{f:Addr}{fd:FuncData}(F:Fun K "back" "Takes.back" Nu f fd)(T:Txt K mg C I)(GWithin:Cl P w K mg base 2 "is_within" ["thing","low","high"] Lm){gJoins:Addr}{fJoins:FuncData}(bJoins:Binds K fJoins ["self"] [])(hJoins:Fy K C "joins" gJoins)(GJoins:FnOk P w K mg base CX0 2 gJoins fJoins ["self"] (Kw C)):
  FnOk P w K mg base CX0 3 f fd ["self","thing"] (U5 C):=by
 refine F.ok scBack (λvs H Q E h=> ?_) (λcdv A outer s H vs Q E hr h=> ?_)
 ·obtain⟨_,_,_,_,rfl,_⟩:=h;rfl
 ·obtain⟨x,S,sts,kk,rfl,hT,hk,k⟩:=h;refine⟨_,Ae (Br (Hm (Gg (A7 GWithin hr (Aa (pv 1) (Aa Af (Aa (Di (pv 0) T.cl hJoins GJoins hr bJoins .nil C7) Ad)))))) (Ag Y7) Bd)
   (Ag (Zu (pv 0) (Ch Vu (Qg (pv 0) rfl) Dw (Bt (Au Bi (pv 1) Af))) rfl)),?_⟩
  obtain⟨⟨dx,e1⟩,⟨rs,e2,e3⟩,l⟩:=id hT;have rl:=e3.len;refine⟨_,rfl,_,rfl,x,dx,_,rfl,e1,Cm S (by decide+kernel),x,S,sts,rfl,hT,_,_,_,rfl,by omega,by omega,true,rfl,C4 ?_⟩;dsimp only[B6];refine⟨_,rfl,x,C,dx,_,_,rfl,e1,T.cl,T.nS,Kz S,_,rfl,_,_,rfl,rfl,_,rfl,S,_,rfl,SqL.of e2,λp hp=> ?_⟩;have cut:Ee (rs.map V.ref) none (some ((kk:Int)+1))=(rs.take (kk+1)).map V.ref:=by
   unfold Ee;simp only[HT.sIx,drop_zero,Nat.sub_zero];rw[Qa1 (by omega),map_take,show min ((kk:Int)+1).toNat (rs.map V.ref).length=kk+1 by simp;omega]
  rw[cut];have s1:=Ac (o:= .lst ((rs.take (kk+1)).map V.ref)) hp;have p1:=Ab (H:=H) (a:=p) (o:= .lst ((rs.take (kk+1)).map V.ref));generalize upd H p (.lst ((rs.take (kk+1)).map V.ref))=H1 at s1 p1;have x1:=s1 _ _ e1;refine⟨_,rfl,x,C,dx,_,rfl,x1,T.cl,T.nS,(show 1<1000 by decide),?_⟩;have tup:TupS H (upd H1 x (.ins C dx (Pc p))):=λc xs e=>by rw[Ai (Ar (s1 _ _ e) x1 (by intro z;cases z))];exact s1 _ _ e
  rw[flds_put];exact k p _ hp (λc o e nc=>by rw[Ai nc];exact s1 _ _ e) ⟨⟨dx,Ab⟩,⟨rs.take (kk+1),by rw[Ai (Ar p1 x1 (by intro z;cases z))];exact p1,(e3.take _).tup tup⟩,by rw[Qb0];omega⟩
def Fh(N:Nat)(Q:List T4):List S3:=(List.range (Q.length+1)).map λi=>stF N (Q.take i)
theorem R7(N:Nat)(Q:List T4):∃pre:List S3,Fh N Q=pre++[stF N Q]/\pre.length=Q.length:=by
 refine⟨(List.range Q.length).map λi=>stF N (Q.take i),?_,by rw[If,Qe0]⟩;unfold Fh;rw[range_succ,map_append];simp
theorem Qf(N:Nat)(Q:List T4):(Fh N Q).length=Q.length+1:=by unfold Fh;rw[If,Qe0]
theorem Zs{N:Nat}{Q:List T4}{t:T4}:Fh N (Q++[t])=Fh N Q++[(Eh (stF N Q) t.2.1 t.2.2.1).1]:=by
 unfold Fh;rw[Qa3,List.length_singleton,range_succ (n:=Q.length+1),map_append]
 congr 1
 ·refine map_congr_left λi hi=> ?_;have:=mem_range.mp hi;rw[List.take_append_of_le_length (by omega)]
 ·rw[List.map_singleton,Qc6 (by simp),Zp]
theorem sts_take{N k:Nat}{Q:List T4}(h:k<=Q.length):(Fh N Q).take (k+1)=Fh N (Q.take k):=by
 unfold Fh;rw[<-map_take,List.take_range,Qb0,min_eq_left (by omega),min_eq_left h];refine map_congr_left λi hi=> ?_;have:=mem_range.mp hi;rw[List.take_take,min_eq_left (by omega)]
structure DeckAt(H:Hp)(a c:Addr):Prop where
 ne:a≠c
 ex:∃(S k:Int) (cs:List Int),H a=some (.lst [.ref c,.int S,.int k])/\H c=some (.lst (cs.map V.int))/\cs.length<=63
def But(a c:Addr)(H H':Hp):Prop:=∀b o,H b=some o->b≠a->b≠c->H' b=some o
theorem But.trans{a c:Addr}{H H1 H2:Hp}(h:But a c H H1)(h':But a c H1 H2):But a c H H2:=λb o e n1 n2=>h' b o (h b o e n1 n2) n1 n2
theorem DeckAt.ne'{H:Hp}{a c b:Addr}(h:DeckAt H a c)(hb:H b=none):b≠a/\b≠c:=by
 obtain⟨_,_,_,_,h1,h2,_⟩:=h;exact⟨(Al h1 hb).symm,(Al h2 hb).symm⟩
theorem DeckAt.same{H H':Hp}{a c:Addr}(h:DeckAt H a c)(s:Same H H'):DeckAt H' a c:=by
 obtain⟨n,S,k,cs,h1,h2,r⟩:=h;exact⟨n,S,k,cs,s _ _ h1,s _ _ h2,r⟩
theorem DeckAt.upd{H:Hp}{a c b:Addr}{o:HO}(h:DeckAt H a c)(n:b≠a/\b≠c):DeckAt (upd H b o) a c:=by
 obtain⟨m,S,k,cs,h1,h2,r⟩:=h;exact⟨m,S,k,cs,by rw[Ai n.1.symm];exact h1,by rw[Ai n.2.symm];exact h2,r⟩
theorem But.of{a c:Addr}{H H':Hp}(s:Same H H'):But a c H H':=λb o e _ _=>s b o e
theorem But.set{a c:Addr}{H H1:Hp}{b:Addr}{o:HO}(h:But a c H H1)(hb:H b=none):But a c H (upd H1 b o):=λx u e n m=>by
 rw[Ai (Al e hb)];exact h x u e n m
theorem But.none{a c:Addr}{H H':Hp}{b:Addr}(h:But a c H H')(w:DeckAt H' a c)(hb:H' b=none):H b=none:=by
 cases e:H b with
 |none=>rfl
 |some o=>
  have n:=w.ne' hb;rw[h b o e n.1 n.2] at hb;cases hb
theorem But.tup{a c:Addr}{H H':Hp}(h:But a c H H')(w:DeckAt H a c){b:Addr}{xs:List V}(e:H b=some (.tup xs)):H' b=some (.tup xs):=by
 obtain⟨_,_,_,_,h1,h2,_⟩:=w;exact h _ _ e (Ar e h1 (by intro z;cases z)) (Ar e h2 (by intro z;cases z))
theorem But.dct{a c:Addr}{H H':Hp}(h:But a c H H')(w:DeckAt H a c){b:Addr}{xs:List (Key×V)}(e:H b=some (.dK xs)):H' b=some (.dK xs):=by
 obtain⟨_,_,_,_,h1,h2,_⟩:=w;exact h _ _ e (Ar e h1 (by intro z;cases z)) (Ar e h2 (by intro z;cases z))
def U4(K:Frag):Sp:=λvs H Q _=>∃(s:Addr) (ns:List Int),vs=[.ref s]/\SqL K H s (ns.map V.int)/\ns.length<=63/\
 ∀(a c:Addr) (H':Hp),Same H H'->H a=none->H c=none->DeckAt H' a c->Q (.ref a) H'
def Gh:Sp:=λvs H Q _=>∃(a c:Addr) (m:Int),vs=[.ref a,.int m]/\DeckAt H a c/\0<m/\m<1073741824/\
 ∀(v:Int) (H':Hp),0<=v->v<m->But a c H H'->DeckAt H' a c->Q (.int v) H'
theorem cut63{ns:List Int}(h:ns.length<=63):Ee (ns.map V.int) none (some 63)=ns.map V.int:=by
 unfold Ee;rw[HT.sIx_none,show (63:Int)=((63:Nat):Int) from rfl,HT.sIx_nat];simp only[If,drop_zero];exact Qc6 (by simp;omega)
theorem Vr{K:Frag}{H:Hp}:∀ns:List Int,RepAll K H (ns.map V.int) (ns.map PyData.int)
 |[]=> .nil
 |n::ns=> .cons (.int n) (Vr ns)
theorem Mp:∀ns:List Int,PyData.canLayAll0 (ns.map PyData.int)=true
 |[]=>rfl
 |n::ns=>by rw[Qb1,PyData.canLayAll0,Mp ns];rfl
theorem layInts(ns:List Int):(PyData.list (ns.map PyData.int)).canLay0=true:=Mp ns
theorem Ie:∀ns:List Int,PyData.depthAll (ns.map PyData.int)<=1
 |[]=>by decide
 |n::ns=>by
  have:=Ie ns;rw[Qb1];simp only[PyData.depthAll,PyData.depth];omega
theorem Xu(ns:List Int):(PyData.list (ns.map PyData.int)).depth<=20:=by
 have:=Ie ns;simp only[PyData.depth];omega
theorem eqvNil(xs:List PyData):PyData.eqv (.list xs) (.list [])=xs.isEmpty:=by
 cases xs<;> simp[PyData.eqv,PyData.eqvAll]
def U7:Sp:=λvs H Q _=>∃(a c:Addr) (x y:Int),vs=[.ref a,.int x,.int y]/\DeckAt H a c/\∀(v:Int) (H':Hp),(v=x\/v=y)->But a c H H'->DeckAt H' a c->Q (.int v) H'
def K2:Sp:=λvs H Q _=>∃(a c:Addr) (N:Nat) (sh:Int) (k:Nat),vs=[.ref a,.int (N:Int),.int sh,.int (k:Int)]/\DeckAt H a c/\2<=N/\N<=24/\0<=sh/\sh<4/\∀(r:Addr) (p q:Nat) (H':Hp),But a c H H'->DeckAt H' a c->H' r=some (.tup [.int (p:Int),.int (q:Int)])->p<N->q<N->p≠q->Q (.ref r) H'
theorem pick2{x y:Int}{v:Int}(h0:0<=v)(h1:v<2){p q:V}:∃z,atI [p,q] v=some z/\(z=p\/z=q):=by
 obtain⟨j,rfl⟩:∃j:Nat,v=(j:Int):=⟨v.toNat,by omega⟩
 match j,h1 with
 |0,_=>exact⟨p,rfl,.inl rfl⟩
 |1,_=>exact⟨q,rfl,.inr rfl⟩
theorem pick4{v:Int}(h0:0<=v)(h1:v<4){p q r s:V}:∃z,atI [p,q,r,s] v=some z/\(z=p\/z=q\/z=r\/z=s):=by
 obtain⟨j,rfl⟩:∃j:Nat,v=(j:Int):=⟨v.toNat,by omega⟩
 match j,h1 with
 |0,_=>exact⟨p,rfl,.inl rfl⟩
 |1,_=>exact⟨q,rfl,.inr (.inl rfl)⟩
 |2,_=>exact⟨r,rfl,.inr (.inr (.inl rfl))⟩
 |3,_=>exact⟨s,rfl,.inr (.inr (.inr rfl))⟩
theorem scDeck:Av ["_law_script","_law_cells"] ["_law_script"] (Ah sDeck):=⟨rfl,rfl,rfl,by decide+kernel,rfl,by decide+kernel,by decide+kernel⟩
theorem ok_Deck{f:Addr}{fd:FuncData}(F:Fun K "_law_deck" "_law_deck" sDeck f fd)(T:Txt K mg C I):FnOk P w K mg base CX0 1 f fd ["_law_script"] (U4 K):=by
 refine F.ok scDeck (λvs H Q E h=> ?_) (λcdv A outer s H vs Q E hr h=> ?_)
 ·obtain⟨_,_,rfl,_⟩:=h;rfl
 ·obtain⟨sa,ns,rfl,hS,hl,k⟩:=h;refine⟨_,Ae (Aq (i:=1) scDeck.nd rfl (Or.inl rfl) (Bb Py (by rfl) T.list (by decide+kernel) (Aa (Ch Vu (pv 0) Dw (Bt Af)) Ad)))
   (Ag (As (Bh (Aa (pe_rev (pv 1) (Bt (Mj Hh Af)) (λo i=>[o,i]) (λ_ _=>by with_unfolding_all rfl)) (Aa (Au Bi (Au Cv (A0 (Z3 rfl) (by rfl) T.sum PyProof.Rows.boot_sum (Aa (pv 1) Ad)) Af)
    (A0 Ay (by rfl) T.len PySem.boot_len (Aa (pv 1) Ad))) (Aa Af Ad)))))),?_⟩
  refine⟨_,rfl,63,rfl,sa,_,rfl,hS,λp hp=> ?_⟩;rw[cut63 hl];refine⟨p,_,rfl,.inl (SqL.of Ab),λd hd=> ?_⟩;refine⟨_,rfl,_,rfl,_,rfl,rfl,d,_,rfl,SqL.of Ab,λc hc=> ?_⟩;have e1:Same H (upd (upd (upd H p (.lst (ns.map V.int))) d (.lst (ns.map V.int))) c (.lst (ns.map V.int).reverse)):=((Ac hp).trans (Ac hd)).trans (Ac hc);have cd:upd (upd (upd H p (.lst (ns.map V.int))) d (.lst (ns.map V.int))) c (.lst (ns.map V.int).reverse) d=some (.lst (ns.map V.int)):=Ac hc _ _ Ab;refine⟨_,rfl,d,ns,rfl,SqL.of cd,_,_,rfl,rfl,(by show (0:Int)<2147483629;decide),_,rfl,d,_,rfl,.inl (SqL.of cd),_,_,rfl,rfl,small (by simp),λa ha=> ?_⟩;refine k a c _ (e1.trans (Ac ha)) (e1.free ha) (((Ac hp).trans (Ac hd)).free hc) ⟨?_,_,_,ns.reverse,Ab,?_,by simpa using hl⟩
  ·exact(Al Ab ha).symm
  ·rw[Ai (Al Ab ha),Ab,List.map_reverse]
theorem scTake:Av ["_law_deck_here","_law_most","_law_number"] ["_law_deck_here","_law_most"] (Ah sTake):=⟨rfl,rfl,rfl,by decide+kernel,rfl,by decide+kernel,by decide+kernel⟩
def tMix:TS:=λD σ H=>∃(a c:Addr) (m num S k:Int) ,σ=[some (.ref a),some (.int m),some (.int num)]/\H a=some (.lst [.ref c,.int S,.int k])/\0<m/\∀v,0<=v->v<m->D.rt (.int v) H
theorem ok_Take{f:Addr}{fd:FuncData}(F:Fun K "_law_take" "_law_take" sTake f fd)(T:Txt K mg C I):FnOk P w K mg base CX0 1 f fd ["_law_deck_here","_law_most"] Gh:=by
 refine F.ok scTake (λvs H Q E h=> ?_) (λcdv A outer s H vs Q E hr h=> ?_)
 ·obtain⟨_,_,_,rfl,_⟩:=h;rfl
 ·obtain⟨a,c,m,rfl,DA,h1,h2,k⟩:=h;obtain⟨nac,S,k0,cs,ha,hc,hl⟩:=id DA;refine⟨_,Ae (Da (Au Bi (Ao Bc (pv 0) Af (λ_ _=>rfl)) Af) (Mm (pv 0) Af Fw))
   (Ae (Aq (i:=2) scTake.nd rfl (Or.inl rfl) (Ao Bc (pv 0) Af (λ_ _=>rfl)))
   (Ae (Br (Ax (op_neD hr.units) (Ao Bc (pv 0) Af (λ_ _=>rfl)) (Bh Ad) (Aw _))
    (Ae (Aq (i:=2) scTake.nd rfl (Or.inl rfl) (pe_bm0 Qc3 PySem.F.slot_list_pop PySem.F.type_list_pop mt_pop (Ao Bc (pv 0) Af (λ_ _=>rfl))))
    (Ag (Br (Ax op_ge (pv 2) (Au Hg Af Af) (Aw _))
     (Ae (Co (De Qc3 PySem.F.slot_list_append PySem.F.type_list_append Cq (Ao Bc (pv 0) Af (λ_ _=>rfl)) (Aa (Au Gr (pv 2) (pv 1)) Ad)))
     (Ag (As (Au Cv (pv 2) (pv 1))))) Bd))) Bd)
   (PSs.imp' (t':=tMix) (Ae (Aq (i:=2) scTake.nd rfl (Or.inl rfl) (Au Cv (Au Bi (Au Bi (Au Mc (Au Cv (pv 2) Af) Af) (Au Mc Af (Ao Bc (pv 0) Af (λ_ _=>rfl)))) Af) Af))
    (Ae (Aq (i:=2) scTake.nd rfl (Or.inl rfl) (Au Cv (Au Mc (pv 2) (pv 2)) Af))
    (Ag (As (Au Cv (Au Gr (Au Cv (Au Mc (pv 2) (Au Bi (pv 2) Af)) Af) Af) (pv 1)))))) ?f))),?_⟩
  case f=>
   rintro D σ H' ⟨a,c,m,num,S,k0,rfl,ha,hm,q⟩;refine⟨_,rfl,_,_,rfl,rfl,(by show (0:Int)<2147483647;decide),_,_,rfl,rfl,.inr ⟨by decide,by decide⟩,_,rfl,a,_,2,_,rfl,rfl,SqL.of ha,rfl,_,_,rfl,rfl,.inl ⟨by decide,by decide⟩,_,_,rfl,rfl,_,_,rfl,rfl,_,_,rfl,rfl,(by show (0:Int)<2147483629;decide),?_⟩;generalize (num % 2147483647 * 48271+69621 * k0+7919)=z1;have b1:=emod_nonneg z1 (show (2147483629:Int)≠0 by decide);have b2:=Qf7 z1 (show (0:Int)<2147483629 by decide);generalize z1 % 2147483629=z2 at b1 b2;refine⟨_,rfl,_,rfl,_,_,rfl,rfl,.inl ⟨by omega,by omega⟩,_,_,rfl,rfl,(by show (0:Int)<2147483587;decide),?_⟩;generalize z2 * z2=z3;have b3:=emod_nonneg z3 (show (2147483587:Int)≠0 by decide);have b4:=Qf7 z3 (show (0:Int)<2147483587 by decide);generalize z3 % 2147483587=z4 at b3 b4;refine⟨_,rfl,_,rfl,_,_,rfl,rfl,_,_,rfl,rfl,.inl ⟨by omega,by omega⟩,_,_,rfl,rfl,(by show (0:Int)<2147483563;decide),_,_,rfl,rfl,⟨by decide,by decide⟩,_,rfl,_,_,rfl,rfl,hm,?_⟩;exact q _ (emod_nonneg _ (by omega)) (Qf7 _ hm)
  refine⟨_,rfl,a,_,2,_,rfl,rfl,SqL.of ha,rfl,_,_,rfl,rfl,_,rfl,a,_,2,2,rfl,rfl,ha,rfl,?_⟩;generalize hH1:upd H a _=H1;have ha1:H1 a=some (.lst [.ref c,.int S,.int (k0+1)]):=by rw[<-hH1];exact Ab
  have ne2:∀{b:Addr} {o:HO},H b=some o->b≠a->H1 b=some o:=λ{b o} e n=>by rw[<-hH1,Ai n];exact e
  refine⟨_,rfl,a,_,1,_,rfl,rfl,SqL.of ha1,rfl,?_⟩;refine⟨_,rfl,a,_,0,_,rfl,rfl,SqL.of ha1,rfl,small (by simp),λe he=> ?_⟩;have s2:=Ac (o:= .lst []) he;have he2:upd H1 e (.lst []) e=some (.lst []):=Ab;generalize upd H1 e (.lst [])=H2 at s2 he2;have ha2:=s2 _ _ ha1;have hc2:=s2 _ _ (ne2 hc nac.symm);have bt:But a c H H2:=λb o e n1 n2=>s2 _ _ (ne2 e n1);refine⟨.list (cs.map PyData.int),.list [],.lst (SqL.of hc2) (Vr cs),.lst (SqL.of he2) .nil,layInts cs,rfl,Xu cs,_,rfl,?_⟩;rw[eqvNil];refine B7 (λd=> ?_) (λd=> ?_)
  ·-- a cell
   have d:cs≠[]:=by cases cs with
    |nil=>simp at d
    |cons _ _=>simp
   obtain⟨init,z,rfl⟩:∃init z,cs=init++[z]:=⟨cs.dropLast,cs.getLast d,(List.dropLast_concat_getLast d).symm⟩
   have hli:init.length+1<=63:=by simpa using hl
   refine⟨_,rfl,a,_,0,_,rfl,rfl,SqL.of ha2,rfl,.inl ⟨rfl,_,SqL.of hc2⟩,c,_,.int z,rfl,rfl,hc2,(by simp),?_⟩;have e3:(map V.int (init++[z])).dropLast=init.map V.int:=by rw[<-List.map_dropLast];simp
   rw[e3];have ha3:upd H2 c (.lst (init.map V.int)) a=some (.lst [.ref c,.int S,.int (k0+1)]):=by rw[Ai nac];exact ha2
   have bt3:But a c H (upd H2 c (.lst (init.map V.int))):=λb o e n1 n2=>by rw[Ai n2];exact bt b o e n1 n2
   refine⟨_,rfl,_,_,rfl,rfl,⟨by decide,by decide,by decide⟩,_,_,rfl,rfl,_,rfl,?_⟩;refine B7 (λg=> ?_) (λg=> ?_)
   ·refine⟨_,rfl,a,_,0,_,rfl,rfl,SqL.of ha3,rfl,.inl ⟨rfl,_,SqL.of Ab⟩,_,rfl,_,rfl,_,_,rfl,rfl,⟨h1,by omega⟩,c,_,_,rfl,rfl,Ab,small (n:=_+1) (by simp;omega),?_⟩;refine⟨_,rfl,_,rfl,_,_,rfl,rfl,h1,?_⟩;refine k _ _ (emod_nonneg _ (by omega)) (Qf7 _ h1) (λb o e n1 n2=>by rw[Ai n2];exact bt3 b o e n1 n2) ⟨nac,S,k0+1,init++[z / m],?_,?_,by simpa using hli⟩
    ·rw[Ai nac];exact ha3
    ·rw[Ab,map_append];rfl
   ·exact⟨a,c,m,z,S,k0+1,rfl,ha3,h1,λv v1 v2=>k v _ v1 v2 bt3 ⟨nac,S,k0+1,init,ha3,Ab,by omega⟩⟩
  ·exact⟨a,c,m,S,S,k0+1,rfl,ha2,h1,λv v1 v2=>k v _ v1 v2 bt ⟨nac,S,k0+1,cs,ha2,hc2,hl⟩⟩
theorem scRare:Av ["_law_deck_here","_law_often","_law_rare_here"] ["_law_deck_here","_law_often","_law_rare_here"] (Ah Z5):=⟨rfl,rfl,rfl,by decide+kernel,rfl,by decide+kernel,by decide+kernel⟩
theorem ok_Rare{f:Addr}{fd:FuncData}(F:Fun K "_law_rare" "_law_rare" Z5 f fd)(T:Txt K mg C I)(GTake:Cl P w K mg base 1 "_law_take" ["_law_deck_here","_law_most"] Gh):
  FnOk P w K mg base CX0 2 f fd ["_law_deck_here","_law_often","_law_rare_here"] U7:=by
 refine F.ok scRare (λvs H Q E h=> ?_) (λcdv A outer s H vs Q E hr h=> ?_)
 ·obtain⟨_,_,_,_,rfl,_⟩:=h;rfl
 ·obtain⟨a,c,x,y,rfl,D0,k⟩:=h;refine⟨_,Ag (As (Ao Bc (Bh (Aa (pv 1) (Aa (pv 2) Ad))) (Bb Gv (by rfl) T.int (by decide+kernel) (Aa (Cr Bq (A7 GTake hr (Aa (pv 0) (Aa Af Ad))) Af (Aw _)) Ad)) (λ_ _=>rfl))),?_⟩;refine⟨_,rfl,_,rfl,small (by simp),λl hl=> ?_⟩;have s1:=Ac (o:= .lst [.int x,.int y]) hl;have l1:=Ab (H:=H) (a:=l) (o:= .lst [.int x,.int y]);have ln:=D0.ne' hl;generalize upd H l (.lst [.int x,.int y])=H1 at s1 l1;refine⟨_,rfl,a,c,8,rfl,D0.same s1,by decide,by decide,λv H2 v0 v1 b2 D2=>⟨rfl,.inr ⟨_,rfl,?_⟩⟩⟩;have l2:=b2 _ _ l1 ln.1 ln.2;by_cases g:v=5
  ·exact⟨l,_,_,.int y,rfl,rfl,SqL.of l2,by rw[g,decide_eq_true rfl];rfl,k y H2 (.inr rfl) ((But.of s1).trans b2) D2⟩
  ·exact⟨l,_,_,.int x,rfl,rfl,SqL.of l2,by rw[decide_eq_false (λe=>g (by injection e))];rfl,k x H2 (.inl rfl) ((But.of s1).trans b2) D2⟩
theorem K8(z:Str):z.length=z.cps.toList.length:=by simp[Str.length]
theorem cat_len(x y:Str):(x++y).length=x.length+y.length:=by
 show (x.cps++y.cps).size=_;rw[Array.size_append];rfl
theorem Vy:∀j,j<26->∃rest,Builtin.Str.occurrences LS ⟨#[97+j]⟩ 0 LS.length 1=j::rest:=by
 intro j hj;have:∀j:Fin 26,(Builtin.Str.occurrences LS ⟨#[97+j.1]⟩ 0 LS.length 1).head? =some j.1:=by decide+kernel
 have h:=this ⟨j,hj⟩;cases e:Builtin.Str.occurrences LS ⟨#[97+j]⟩ 0 LS.length 1 with
 |nil=>rw[e] at h;cases h
 |cons x r=>
  rw[e] at h;have:x=j:=by simpa using h
  subst this;exact⟨r,rfl⟩
def cA(j0:Int)(k:Nat):Nat:=97+((j0+(0+(k:Int)) / 8) % 26).toNat
def cB(j0:Int)(k:Nat):Nat:=97+((j0+(0+(k:Int)) / 26) % 26).toNat
def dB(j1:Int)(k:Nat):Nat:=97+((j1+(0+(k:Int))) % 26).toNat
def NmA(j0:Int)(k:Nat)(z:Str):Prop:=∃p,z.cps.toList=cA j0 k::p/\p.length=k % 8
def NmB(j0 j1:Int)(h:List Nat)(k:Nat)(z:Str):Prop:=z.cps.toList=h++[cB j0 k,dB j1 k]
theorem nmA_inj{j0:Int}{j k:Nat}(hj:j<70)(hk:k<70){z:Str}(a:NmA j0 j z)(b:NmA j0 k z):j=k:=by
 obtain⟨p,e,l⟩:=a;obtain⟨p',e',l'⟩:=b;have e:=e.symm.trans e';injection e with e1 e2;rw[e2] at l;unfold cA at e1;omega
theorem nmB_inj{j0 j1:Int}{h:List Nat}{j k:Nat}(hj:j<70)(hk:k<70){z:Str}(a:NmB j0 j1 h j z)(b:NmB j0 j1 h k z):j=k:=by
 have e:=List.append_cancel_left (a.symm.trans b);injection e with e1 e2;injection e2 with e2 _;unfold cB at e1;unfold dB at e2;omega
theorem nd_of{zs:List Str}{p:Nat->Str->Prop}(hl:zs.length<=70)(inj:∀{j k:Nat} {z:Str},j<70->k<70->p j z->p k z->j=k)(h:∀(j:Nat) (y:Str),zs[j]? =some y->p j y):zs.Nodup:=by
 rw[List.nodup_iff_pairwise_ne,Qe5];intro i j hi hj hij e;have h1:=h i zs[i] (Cc hi);have h2:=h j zs[j] (Cc hj);rw[e] at h1;exact absurd (inj (by omega) (by omega) h1 h2) (by omega)
theorem slice_1{z:Str}{m:Nat}(hz:z.length=8)(hm:m<8):(Txt.slice z (some 1) (some (1+(m:Int)))).cps.toList.length=m:=by
 have hz':z.cps.toList.length=8:=by rw[<-K8];exact hz
 have:=StrLaws.sliceText_plain (x:=z) (i:=1) (j:=1+(m:Int)) ⟨by decide,by omega,by omega⟩;rw[show Txt.slice z (some 1) (some (1+(m:Int)))=StrLaws.sliceText z (some 1) (some (1+(m:Int))) from rfl,this,show (1+(m:Int) - 1).toNat=m by omega,show ((1:Int)).toNat=1 from rfl];show ((z.cps.toList.drop 1).take m).toArray.toList.length=m;rw[List.toList_toArray,Qb0,length_drop];omega
def Ph:Sp:=λvs H Q _=>∃(a c:Addr),vs=[.ref a]/\DeckAt H a c/\∀(l:Addr) (zs:List Str) (H':Hp),But a c H H'->DeckAt H' a c->H' l=some (.lst (zs.map V.str))->l≠a->l≠c->zs.length=70->zs.Nodup->Q (.ref l) H'
theorem Wb{zs:List Str}{i:Nat}{y:Str}{p:Nat->Str->Prop}(zl:zs.length=i)(h:∀(j:Nat) (y:Str),zs[j]? =some y->p j y)(hy:p i y):∀(j:Nat) (x:Str),(zs++[y])[j]? =some x->p j x:=λj x hx=>by
 rw[getElem?_append] at hx;split at hx
 ·exact h j x hx
 ·have hj:j=i:=by
   have:=(List.getElem?_eq_some_iff.mp hx).1;simp at this;omega
  subst hj;rw[show j - zs.length=0 by omega] at hx;have:y=x:=by simpa using hx
  rw[<-this];exact hy
theorem scNames:Av ["_law_deck_here","_law_letters","_law_base","_law_first","_law_last","_law_head","_law_found","_law_k","_law_name"] ["_law_deck_here"] (Ah K6):=⟨rfl,rfl,rfl,by decide+kernel,rfl,by decide+kernel,by decide+kernel⟩
theorem Zw{f:Addr}{fd:FuncData}(F:Fun K "_law_names" "_law_names" K6 f fd)(T:Txt K mg C I)(GTake:Cl P w K mg base 1 "_law_take" ["_law_deck_here","_law_most"] Gh):
  FnOk P w K mg base CX0 2 f fd ["_law_deck_here"] Ph:=by
 refine F.ok scNames (λvs H Q E h=> ?_) (λcdv A outer s H vs Q E hr h=> ?_)
 ·obtain⟨_,_,rfl,_⟩:=h;rfl
 ·obtain⟨a,c,rfl,hw,k⟩:=h;refine⟨_,Ae (Aq (i:=1) scNames.nd rfl (Or.inr rfl) Bs)
   (Ae (Aq (i:=2) scNames.nd rfl (Or.inr rfl) (De plainAttrs_str PySem.F.slot_str_join PySem.F.type_str_join mt_join Bs (Aa (Cg (T:=["_law_k"]) (F:=["_law_letters","_law_deck_here"]) (js:=[1,0]) (cs (osc:=Ah K6)) rfl (Cj rfl T.range (Aa Af Ad)) (λ_ _ _ _ _=>Aj (i:=0) (show (["_law_k","_law_letters","_law_deck_here"]:List Str).Nodup by decide+kernel) rfl (Or.inl rfl)) (λ_ _ _ _ _=>Ce) (λ_ _ _ _ _=>Ao Jt (pv 1) (A7 GTake hr (Aa (pv 2) (Aa Af Ad))) (λ_ _=>rfl))) Ad)))
   (Ae (Aq (i:=3) scNames.nd rfl (Or.inr rfl) (De plainAttrs_str slot_str_index PySem.F.type_str_index No (pv 1) (Aa (Ao Jt (pv 2) Af (λ_ _=>rfl)) Ad)))
   (Ae (Aq (i:=4) scNames.nd rfl (Or.inl rfl) (De plainAttrs_str slot_str_index PySem.F.type_str_index No (pv 1) (Aa (Ao Jt (pv 2) Af (λ_ _=>rfl)) Ad)))
   (Ae (Br (Ax Bq (A7 GTake hr (Aa (pv 0) (Aa Af Ad))) Af (Aw _)) (Ag (As (Cg (T:=["_law_k"]) (F:=["_law_letters","_law_base","_law_first"]) (js:=[1,2,3]) (cs (osc:=Ah K6)) rfl (Cj rfl T.range (Aa Af Ad)) (λ_ _ _ _ _=>Aj (i:=0) (show (["_law_k","_law_letters","_law_base","_law_first"]:List Str).Nodup by decide+kernel) rfl (Or.inl rfl)) (λ_ _ _ _ _=>Ce) (λ_ _ _ _ _=>Au Hy (Ao Jt (pv 1) (Au Cv (Au Bi (pv 3) (Au Gr (pv 0) Af)) Af) (λ_ _=>rfl)) (Ch Ys (pv 2) (Bt Af) (Bt (Au Bi Af (Au Cv (pv 0) Af)))))))) Bd)
   (Ae (Aq (i:=5) scNames.nd rfl (Or.inl rfl) (Ch Ys (pv 2) Dw (Bt (A7 GTake hr (Aa (pv 0) (Aa Af Ad))))))
   (Ae (Aq (i:=6) scNames.nd rfl (Or.inl rfl) (Bh Ad))
   (Ae (Cb PassesOwn.never rfl (Cj rfl T.range (Aa Af Ad)) (Aj (i:=7) scNames.nd rfl (Or.inl rfl)) (Ae (Aq (i:=8) scNames.nd rfl (Or.inl rfl) (Au Hy (pv 5) (Ao Jt (pv 1) (Au Cv (Au Bi (pv 3) (Au Gr (pv 7) Af)) Af) (λ_ _=>rfl))))
   (Ag (Co (De Qc3 PySem.F.slot_list_append PySem.F.type_list_append Cq (pv 6) (Aa (Au Hy (pv 8) (Ao Jt (pv 1) (Au Cv (Au Bi (pv 4) (pv 7)) Af) (λ_ _=>rfl))) Ad))))))
   (Ag (As (pv 6)))))))))),?_⟩
  refine⟨rfl,8,rfl,by decide,by decide,λD hD=>Dl (lo:=0) (n:=8) (λj σ ys H2=>∃(u:Option V) (ws:List Nat),σ=[u,some (.str LS),some (.ref a)]/\But a c H H2/\DeckAt H2 a c/\H2 D=some (.lst ys)/\ys=ws.map (λc=>V.str ⟨#[c]⟩)/\ws.length=j/\∀x∈ws,97<=x/\x<123) ?_ (λj σ ys H2 _ ⟨_,_,_,_,_,e,_⟩=>e) ?_ ?_⟩
  ·exact⟨none,[],rfl,But.of (Ac hD),hw.upd (hw.ne' hD),Ab,rfl,rfl,by simp⟩
  ·rintro j σ ys H2 hj ⟨u,ws,rfl,b2,w2,e2,rfl,wl,wb⟩;refine⟨_,rfl,_,rfl,a,c,26,rfl,w2,by decide,by decide,λx H3 x0 x1 b3 w3=> ?_⟩;have e3:=b3 _ _ e2 (hw.ne' hD).1 (hw.ne' hD).2;refine⟨_,x,_,rfl,rfl,small (by decide+kernel),V4 x0 x1,e3,Ap (by simp;omega),_,ws++[97+x.toNat],rfl,(b2.trans b3).set hD,w3.upd (hw.ne' hD),Ab,by simp,by simp[wl],λy hy=> ?_⟩;rcases mem_append.mp hy with q|q
   ·exact wb y q
   ·have:=mem_singleton.mp q;omega
  rintro σ ys H2 ⟨u,ws,rfl,b2,w2,e2,rfl,wl,wb⟩;have hz:=join_cps ws;have ez:(ws.map λc=>V.str ⟨#[c]⟩)=((ws.map λc=>(⟨#[c]⟩:Str)).map V.str):=by rw[map_map];rfl
  refine⟨_,D,_,rfl,rfl,SqL.of (by rw[<-ez];exact e2),?_,?_⟩
  ·have:∀ws:List Nat,((ws.map λc=>(⟨#[c]⟩:Str)).map (·.length)).sum=ws.length:=by
    intro ws
    induction ws with
    |nil=>rfl
    |cons c ws ih=>simp only[Qb1,List.sum_cons,Qb4,ih];show 1+ws.length=_;omega
   rw[this,If];show _+_ * 0<=_;omega
  generalize Txt.join (Str.ofString "") (ws.map λc=>(⟨#[c]⟩:Str))=z at hz;have zl:z.length=8:=by rw[K8,hz,wl]
  obtain⟨j0,hj0,a0⟩:∃j0:Nat,j0<26/\atI z.cps.toList 0=some (97+j0):=by
   match ws,wl,wb,hz with
   |x::r,_,wb,hz=>
    have:=wb x (by simp);exact⟨x - 97,by omega,by rw[hz,show 97+(x - 97)=x by omega];exact Am (j:=0) rfl⟩
  obtain⟨j1,hj1,a1⟩:∃j1:Nat,j1<26/\atI z.cps.toList 1=some (97+j1):=by
   match ws,wl,wb,hz with
   |x::y::r,_,wb,hz=>
    have:=wb y (by simp);exact⟨y - 97,by omega,by rw[hz,show 97+(y - 97)=y by omega];exact Am (j:=1) rfl⟩
  obtain⟨r0,o0⟩:=Vy j0 hj0;obtain⟨r1,o1⟩:=Vy j1 hj1;refine⟨_,rfl,rfl,_,rfl,z,0,_,rfl,rfl,small (by omega),a0,LS,_,j0,r0,rfl,rfl,o0,?_⟩;refine⟨_,rfl,rfl,_,rfl,z,1,_,rfl,rfl,small (by omega),a1,LS,_,j1,r1,rfl,rfl,o1,?_⟩;refine⟨_,rfl,a,c,2,rfl,w2,by decide,by decide,λway H4 y0 y1 b4 w4=>⟨rfl,_,rfl,?_⟩⟩;have B4:But a c H H4:=b2.trans b4;by_cases g:way=0
  ·subst g;rw[decide_eq_true rfl];refine Ew ⟨70,rfl,by decide,by decide,λl hl=>Dl (lo:=0) (n:=70) (λi σ ys H5=>∃(u0:Option V) (zs:List Str),σ=[u0,some (.str LS),some (.str z),some (.int (j0:Int))]/\ys=zs.map V.str/\Same H4 H5/\H5 l=some (.lst ys)/\zs.length=i/\∀(j:Nat) (y:Str),zs[j]? =some y->NmA (j0:Int) j y) ⟨none,[],rfl,rfl,Ac hl,Ab,rfl,by simp⟩ (λj σ ys H5 _ ⟨_,_,_,_,_,e,_⟩=>e) ?_ ?_⟩
   ·rintro i σ ys H5 hi ⟨u0,zs,rfl,rfl,s5,l5,zsl,zsw⟩;have m0:=emod_nonneg ((j0:Int)+(0+(i:Int)) / 8) (show (26:Int)≠0 by decide);have m1:=Qf7 ((j0:Int)+(0+(i:Int)) / 8) (show (0:Int)<26 by decide);have s8:(Txt.slice z (some 1) (some (1+(0+(i:Int)) % 8))).cps.toList.length=i % 8:=by
     have:=slice_1 (m:=i % 8) zl (by omega);rw[show (1+(0+(i:Int)) % 8)=1+((i % 8:Nat):Int) by omega];exact this
    have s9:=Txt.slice_le z (some 1) (some (1+(0+(i:Int)) % 8));refine⟨_,rfl,_,rfl,_,rfl,_,_,rfl,rfl,⟨by decide,by decide⟩,_,_,rfl,rfl,_,_,rfl,rfl,(by show (0:Int)<26;decide),LS,_,_,rfl,rfl,small (by decide+kernel),V4 m0 m1,?_⟩;refine⟨_,rfl,_,rfl,_,rfl,_,_,rfl,rfl,(by show (0:Int)<8;decide),_,_,rfl,rfl,_,rfl,z,rfl,small (by omega),_,_,rfl,rfl,small (by show 1+_<=_;omega),?_⟩;refine⟨l5,Ap (by simp;omega),_,zs++[_],rfl,by rw[map_append];rfl,A8 s5 hl,Ab,by simp[zsl],?_⟩;exact Wb zsl zsw ⟨_,by rw[Jb];rfl,s8⟩
   ·rintro σ ys H5 ⟨u0,zs,rfl,rfl,s5,l5,zsl,zsw⟩;exact k l zs H5 (B4.trans (But.of s5)) (w4.same s5) l5 (w4.ne' hl).1 (w4.ne' hl).2 zsl (nd_of (p:=NmA (j0:Int)) (by omega) (λh1 h2 a b=>nmA_inj h1 h2 a b) zsw)
  ·rw[decide_eq_false (λe=>g (by injection e))];refine C4 ?_;dsimp only[B6];refine⟨_,rfl,Tu ⟨_,rfl,a,c,7,rfl,w4,by decide,by decide,λx H5 x0 x1 b5 w5=> ?_⟩⟩;have hd8:=Txt.slice_le z none (some x);refine⟨_,rfl,z,rfl,small (by omega),?_⟩;generalize Txt.slice z none (some x)=hd at hd8;refine⟨small (by simp),λl hl=> ?_⟩;have B5:=B4.trans b5;have lH:H l=none:=B5.none w5 hl;have ln:=w5.ne' hl;refine⟨70,rfl,by decide,by decide,Fd (lo:=0) (n:=70) (λi σ H6=>∃(u7 u8:Option V) (zs:List Str),σ=[some (.ref a),some (.str LS),some (.str z),some (.int (j0:Int)),some (.int (j1:Int)),some (.str hd),some (.ref l),u7,u8]/\But a c H H6/\DeckAt H6 a c/\H6 l=some (.lst (zs.map V.str))/\zs.length=i/\∀(j:Nat) (y:Str),zs[j]? =some y->NmB (j0:Int) (j1:Int) hd.cps.toList j y) ⟨_,_,[],rfl,B5.trans (But.of (Ac hl)),w5.upd ln,Ab,rfl,by simp⟩ ?_ ?_⟩
   ·rintro i σ H6 hi ⟨u7,u8,zs,rfl,b6,w6,l6,zsl,zsw⟩;have m0:=emod_nonneg ((j0:Int)+(0+(i:Int)) / 26) (show (26:Int)≠0 by decide);have m1:=Qf7 ((j0:Int)+(0+(i:Int)) / 26) (show (0:Int)<26 by decide);have n0:=emod_nonneg ((j1:Int)+(0+(i:Int))) (show (26:Int)≠0 by decide);have n1:=Qf7 ((j1:Int)+(0+(i:Int))) (show (0:Int)<26 by decide);refine⟨_,rfl,_,rfl,_,rfl,_,rfl,_,_,rfl,rfl,⟨by decide,by decide⟩,_,_,rfl,rfl,_,_,rfl,rfl,(by show (0:Int)<26;decide),LS,_,_,rfl,rfl,small (by decide+kernel),V4 m0 m1,_,_,rfl,rfl,small (by show _+1<=_;omega),?_⟩;refine⟨_,rfl,.inl ⟨rfl,_,SqL.of l6⟩,_,rfl,_,rfl,_,rfl,_,rfl,_,_,rfl,rfl,_,_,rfl,rfl,(by show (0:Int)<26;decide),LS,_,_,rfl,rfl,small (by decide+kernel),V4 n0 n1,_,_,rfl,rfl,small (by rw[cat_len];show _+1+1<=_;omega),?_⟩;refine⟨l,_,_,rfl,rfl,l6,Ap (by simp;omega),_,_,zs++[_],rfl,b6.set lH,w6.upd ln,by rw[Ab,map_append];rfl,by simp[zsl],?_⟩;exact Wb zsl zsw (by unfold NmB;rw[Jb,Jb,append_assoc];rfl)
   ·rintro σ H6 ⟨u7,u8,zs,rfl,b6,w6,l6,zsl,zsw⟩;exact⟨_,rfl,k l zs H6 b6 w6 l6 ln.1 ln.2 zsl (nd_of (p:=NmB (j0:Int) (j1:Int) hd.cps.toList) (by omega) (λh1 h2 a b=>nmB_inj h1 h2 a b) zsw)⟩
def Pr2(N:Nat)(x:V)(H:Hp):Prop:=∃(r:Addr) (p q:Nat),x= .ref r/\H r=some (.tup [.int (p:Int),.int (q:Int)])/\p<N/\q<N/\p≠q
theorem scPlaces:Av ["_law_deck_here","_law_many","_law_shape","_law_turn","_law_one","_law_other","_law_few","_law_at","_law_some"] ["_law_deck_here","_law_many","_law_shape","_law_turn"] (Ah P3):=⟨rfl,rfl,rfl,by decide+kernel,rfl,by decide+kernel,by decide+kernel⟩
theorem Xb{f:Addr}{fd:FuncData}(F:Fun K "_law_places" "_law_places" P3 f fd)(T:Txt K mg C I)(GTake:Cl P w K mg base 1 "_law_take" ["_law_deck_here","_law_most"] Gh):
  FnOk P w K mg base CX0 2 f fd ["_law_deck_here","_law_many","_law_shape","_law_turn"] K2:=by
 refine F.ok scPlaces (λvs H Q E h=> ?_) (λcdv A outer s H vs Q E hr h=> ?_)
 ·obtain⟨_,_,_,_,_,rfl,_⟩:=h;rfl
 ·obtain⟨a,c,N,sh,tn,rfl,D0,N2,N24,h0,h4,k⟩:=h;refine⟨_,Ae (Aq (i:=4) scPlaces.nd rfl (Or.inl rfl) (A7 GTake hr (Aa (pv 0) (Aa (pv 1) Ad))))
   (Ae (Aq (i:=5) scPlaces.nd rfl (Or.inl rfl) (Au Cv (Au Bi (Au Bi (pv 4) Af) (A7 GTake hr (Aa (pv 0) (Aa (Au Fv (pv 1) Af) Ad)))) (pv 1)))
   (Ae (Aq (i:=6) scPlaces.nd rfl (Or.inl rfl) (A0 (Gm rfl) (by rfl) T.min (by decide+kernel) (Aa Af (Aa (pv 1) Ad))))
   (Ae (Aq (i:=7) scPlaces.nd rfl (Or.inl rfl) (Au Cv (pv 3) (Au Fv (pv 1) Af)))
   (Ae (Aq (i:=8) scPlaces.nd rfl (Or.inl rfl) (Bh (Aa (A1 (Aa (pv 4) (Aa (pv 5) Ad))) (Aa (A1 (Aa (pv 7) (Aa (Au Bi (pv 7) Af) Ad))) (Aa (A1 (Aa (Au Cv (pv 4) (pv 6)) (Aa (Au Cv (Au Bi (pv 4) Af) (pv 6)) Ad))) (Aa (A1 (Aa Af (Aa (Au Bi (pv 7) Af) Ad))) Ad))))))
   (Ae (Da (Ao Bc (pv 8) (pv 2) (λ_ _=>rfl)) (C8 rfl (An (Aj (i:=4) scPlaces.nd rfl (Or.inl rfl)) (An (Aj (i:=5) scPlaces.nd rfl (Or.inl rfl)) Bk))))
   (Ag (As (Ao Bc (Bh (Aa (A1 (Aa (pv 4) (Aa (pv 5) Ad))) (Aa (A1 (Aa (pv 5) (Aa (pv 4) Ad))) Ad))) (A7 GTake hr (Aa (pv 0) (Aa Af Ad))) (λ_ _=>rfl))))))))),?_⟩
  refine⟨_,rfl,_,rfl,a,c,(N:Int),rfl,D0,by omega,by omega,λx H1 x0 x1 b1 D1=> ?_⟩;obtain⟨p,rfl⟩:=Gk x0;have hp:p<N:=by omega
  refine⟨_,rfl,_,_,rfl,rfl,_,rfl,_,rfl,_,_,rfl,rfl,a,c,(N:Int) - 1,rfl,D1,by omega,by omega,λy H2 y0 y1 b2 D2=> ?_⟩;obtain⟨m,rfl⟩:=Gk y0;refine⟨_,_,rfl,rfl,_,rfl,_,_,rfl,rfl,(by show (0:Int)<(N:Int);omega),?_⟩;have eq1:((p:Int)+1+(m:Int)) % (N:Int)=(((p+1+m) % N:Nat):Int):=by rw[<-Ks];congr 1
  rw[eq1];have q1:=Y9 (N:=N) (a:=p) (v:=m) hp (by omega);generalize (p+1+m) % N=q at q1;refine⟨_,rfl,3,(N:Int),rfl,?_⟩;have hfew:∃few:Nat,(if (N:Int)<3 then (N:Int) else 3)=(few:Int)/\2<=few/\few<=N:=by
   by_cases g:(N:Int)<3
   ·exact⟨N,by rw[Qa2 g],N2,le_refl _⟩
   ·exact⟨3,by rw[Qa1 g];rfl,by decide,by omega⟩
  obtain⟨few,ef,f2,fN⟩:=hfew;rw[ef];refine⟨_,rfl,_,rfl,_,_,rfl,rfl,_,_,rfl,rfl,(by show (0:Int)<(N:Int) - 1;omega),?_⟩;have eat:(tn:Int) % ((N:Int) - 1)=((tn % (N - 1):Nat):Int):=by rw[show (N:Int) - 1=((N - 1:Nat):Int) by omega,Ks]
  have hat:tn % (N - 1)<N - 1:=mod_lt _ (by omega);rw[eat];generalize tn % (N - 1)=at0 at hat;have m1:(p:Int) % (few:Int)=((p % few:Nat):Int):=Ks;have m2:((p:Int)+1) % (few:Int)=(((p+1) % few:Nat):Int):=by rw[<-Ks];congr 1
  have l1:p % few<few:=mod_lt _ (by omega);have l2:(p+1) % few<few:=mod_lt _ (by omega);have l3:p % few≠(p+1) % few:=by
   have:=mod_ne1 (N:=few) (a:=p % few) l1 f2;rw[Nat.add_mod,Nat.mod_eq_of_lt (show 1<few by omega)];exact λe=>this.1 e.symm
  have fin:∀(x:V) (H3:Hp),But a c H H3->DeckAt H3 a c->Pr2 N x H3->∀(u4 u5:Option V) (u8:Addr) (D:Ey),D.rt=Q->True:=λ_ _ _ _ _ _ _ _ _ _=>trivial;refine⟨_,rfl,_,rfl,small (by simp),λt1 ht1=> ?_⟩;have s1:=Ac (o:= .tup [.int (p:Int),.int (q:Int)]) ht1;have e1:=Ab (H:=H2) (a:=t1) (o:= .tup [.int (p:Int),.int (q:Int)]);generalize upd H2 t1 (.tup [.int (p:Int),.int (q:Int)])=G1 at s1 e1;refine⟨_,rfl,_,rfl,_,_,rfl,rfl,small (by simp),λt2 ht2=> ?_⟩;have s2:=Ac (o:= .tup [.int (at0:Int),.int ((at0:Int)+1)]) ht2;have e2:=Ab (H:=G1) (a:=t2) (o:= .tup [.int (at0:Int),.int ((at0:Int)+1)]);generalize upd G1 t2 (.tup [.int (at0:Int),.int ((at0:Int)+1)])=G2 at s2 e2;refine⟨_,rfl,_,rfl,_,_,rfl,rfl,(by show (0:Int)<(few:Int);omega),_,rfl,_,_,rfl,rfl,_,rfl,_,_,rfl,rfl,(by show (0:Int)<(few:Int);omega),?_⟩;rw[m1,m2];refine⟨small (by simp),λt3 ht3=> ?_⟩;have s3:=Ac (o:= .tup [.int ((p % few:Nat):Int),.int (((p+1) % few:Nat):Int)]) ht3;have e3:=Ab (H:=G2) (a:=t3) (o:= .tup [.int ((p % few:Nat):Int),.int (((p+1) % few:Nat):Int)]);generalize upd G2 t3 (.tup [.int ((p % few:Nat):Int),.int (((p+1) % few:Nat):Int)])=G3 at s3 e3;refine⟨_,rfl,_,_,rfl,rfl,small (by simp),λt4 ht4=> ?_⟩;have s4:=Ac (o:= .tup [.int 0,.int ((at0:Int)+1)]) ht4;have e4:=Ab (H:=G3) (a:=t4) (o:= .tup [.int 0,.int ((at0:Int)+1)]);generalize upd G3 t4 (.tup [.int 0,.int ((at0:Int)+1)])=G4 at s4 e4;refine⟨small (by simp),λl hl=> ?_⟩;have s5:=Ac (o:= .lst [.ref t1,.ref t2,.ref t3,.ref t4]) hl;have l5:=Ab (H:=G4) (a:=l) (o:= .lst [.ref t1,.ref t2,.ref t3,.ref t4]);generalize upd G4 l (.lst [.ref t1,.ref t2,.ref t3,.ref t4])=G5 at s5 l5;obtain⟨z,hz,hz4⟩:=pick4 (p:= .ref t1) (q:= .ref t2) (r:= .ref t3) (s:= .ref t4) h0 h4;obtain⟨r,p',q',rfl,hr',hp',hq',hne⟩:Pr2 N z G5:=by
   rcases hz4 with rfl|rfl|rfl|rfl
   ·exact⟨t1,p,q,rfl,s5 _ _ (s4 _ _ (s3 _ _ (s2 _ _ e1))),hp,q1.2,λe=>q1.1 e.symm⟩
   ·exact⟨t2,at0,at0+1,rfl,s5 _ _ (s4 _ _ (s3 _ _ e2)),by omega,by omega,by omega⟩
   ·exact⟨t3,p % few,(p+1) % few,rfl,s5 _ _ (s4 _ _ e3),by omega,by omega,l3⟩
   ·exact⟨t4,0,at0+1,rfl,s5 _ _ e4,by omega,by omega,by omega⟩
  have s25:=((((s1.trans s2).trans s3).trans s4).trans s5)
  have D5:=D2.same s25;have B5:=(b1.trans b2).trans (But.of s25);clear hz4 e1 e2 e3 e4 s1 s2 s3 s4 s5;refine⟨_,rfl,_,rfl,l,_,_,_,rfl,rfl,SqL.of l5,hz,r,_,rfl,SqT.of hr',rfl,_,_,rfl,_,_,rfl,rfl,?_⟩;refine⟨_,rfl,_,rfl,small (by simp),λv1 hv1=> ?_⟩;have s6:=Ac (o:= .tup [.int (p':Int),.int (q':Int)]) hv1;have e6:=Ab (H:=G5) (a:=v1) (o:= .tup [.int (p':Int),.int (q':Int)]);generalize upd G5 v1 (.tup [.int (p':Int),.int (q':Int)])=G6 at s6 e6;refine⟨_,rfl,_,rfl,small (by simp),λv2 hv2=> ?_⟩;have s7:=Ac (o:= .tup [.int (q':Int),.int (p':Int)]) hv2;have e7:=Ab (H:=G6) (a:=v2) (o:= .tup [.int (q':Int),.int (p':Int)]);generalize upd G6 v2 (.tup [.int (q':Int),.int (p':Int)])=G7 at s7 e7;refine⟨small (by simp),λw hw=> ?_⟩;have s8:=Ac (o:= .lst [.ref v1,.ref v2]) hw;have w8:=Ab (H:=G7) (a:=w) (o:= .lst [.ref v1,.ref v2]);have wn:=((D5.same s6).same s7).ne' hw;generalize upd G7 w (.lst [.ref v1,.ref v2])=G8 at s8 w8;have D8:=((D5.same s6).same s7).same s8;have B8:=B5.trans (But.of ((s6.trans s7).trans s8));refine⟨_,rfl,a,c,2,rfl,D8,by decide,by decide,λv H9 v0 v3 b9 D9=> ?_⟩;obtain⟨z2,hz2,hzz⟩:=pick2 (x:=0) (y:=0) v0 v3 (p:= .ref v1) (q:= .ref v2);refine⟨w,_,_,_,rfl,rfl,SqL.of (b9 _ _ w8 wn.1 wn.2),hz2,?_⟩;rcases hzz with rfl|rfl
  ·exact k v1 p' q' H9 (B8.trans b9) D9 (b9.tup D8 (s8 _ _ (s7 _ _ e6))) hp' hq' hne
  ·exact k v2 q' p' H9 (B8.trans b9) D9 (b9.tup D8 (s8 _ _ e7)) hq' hp' hne.symm
def ThK(H:Hp)(th:Addr)(ks:List Str):Prop:=∃kvs:List (Key×V),H th=some (.dK kvs)/\kvs.map (·.1)=ks.map Sum.inr
theorem ThK.same{H H':Hp}{th:Addr}{ks:List Str}(h:ThK H th ks)(s:Same H H'):ThK H' th ks:=let ⟨kvs,a,b⟩:=h;⟨kvs,s _ _ a,b⟩
theorem ThK.but{H H':Hp}{a c th:Addr}{ks:List Str}(h:ThK H th ks)(b:But a c H H')(D:DeckAt H a c):ThK H' th ks:=let ⟨kvs,x,y⟩:=h;⟨kvs,b.dct D x,y⟩
theorem Gi{kvs:List (Key×V)}{ks:List Str}(h:kvs.map (·.1)=ks.map Sum.inr):kvs.length=ks.length:=by
 have:=Qc7 length h;simpa using this
theorem Gq:∀{kvs:List (Key×V)} {ks:List Str} (n:Str),kvs.map (·.1)=ks.map Sum.inr->(Bj kvs (Sum.inr n)).isSome=decide (n∈ks)
 |[],[],n,_=>rfl
 |p::kvs,[],n,h=>by simp at h
 |[],k::ks,n,h=>by simp at h
 |p::kvs,k::ks,n,h=>by
  rw[Qb1,Qb1] at h;injection h with h1 h2;by_cases e:k=n
  ·rw[Ci (by rw[h1,e]),decide_eq_true (by rw[e];exact Qa9 ..)];rfl
  ·rw[B9 (by rw[h1];exact λz=>e (by injection z)),Gq n h2,Bool.eq_iff_iff,Qa4,Qa4,Qa6];exact⟨.inr,λz=>z.elim (λy=>absurd y.symm e) id⟩
theorem Yc{kvs:List (Key×V)}{ks:List Str}{n:Str}(h:kvs.map (·.1)=ks.map Sum.inr)(hn:n ∉ ks):Bj kvs (Sum.inr n)=none:=by
 have:=Gq n h;rw[decide_eq_false hn] at this;simpa using this
theorem keys_put{kvs:List (Key×V)}{ks:List Str}{n:Str}{v:V}(h:kvs.map (·.1)=ks.map Sum.inr)(hn:n ∉ ks):(Bw kvs (Sum.inr n) v).map (·.1)=(ks++[n]).map Sum.inr:=by
 rw[Ld v (Yc h hn),map_append,map_append,h];rfl
theorem Nr:∀{kvs:List (Key×V)} {ks:List Str} (n:Str),kvs.map (·.1)=ks.map Sum.inr->(Em kvs (Sum.inr n)).map (·.1)=(ks.filter λm=>decide (m≠n)).map Sum.inr
 |[],[],n,_=>rfl
 |p::kvs,[],n,h=>by simp at h
 |[],k::ks,n,h=>by simp at h
 |p::kvs,k::ks,n,h=>by
  rw[Qb1,Qb1] at h;injection h with h1 h2;have ih:=Nr n h2;unfold Em at ih ⊢;by_cases e:k=n
  ·rw[List.filter_cons_of_neg (by rw[h1,e];simp),List.filter_cons_of_neg (by rw[e];simp)];exact ih
  ·rw[List.filter_cons_of_pos (by rw[h1];simp[e]),List.filter_cons_of_pos (by simp[e]),Qb1,Qb1,ih,h1]
def Zo(a c th ud:Addr)(H H':Hp):Prop:=∀b o,H b=some o->b≠a->b≠c->b≠th->b≠ud->H' b=some o
def spTie:Sp:=λvs H Q _=>∃(a c nm th ud:Addr) (N:Nat) (sh:Int) (zs ks us:List Str),vs=[.ref a,.int (N:Int),.ref nm,.int sh,.ref th,.ref ud]/\DeckAt H a c/\2<=N/\N<=24/\0<=sh/\sh<4/\H nm=some (.lst (zs.map V.str))/\zs.length=70/\zs.Nodup/\H ud=some (.lst (us.map V.str))/\us=zs.take us.length/\us.length<=65/\ThK H th ks/\ks.length<=100/\(∀n∈ks,n∈us)/\nm≠a/\nm≠c/\ud≠a/\ud≠c/\
 ∀(r:Addr) (t:T4) (us':List Str) (H':Hp),Zo a c th ud H H'->DeckAt H' a c->H' r=some (.tup (Fj t))->t.1 ∉ ks->t.1∈us'->(∀n∈us,n∈us')->Su N t->0<=t.2.2.2->t.2.2.2<=1000000000->ThK H' th (ks++[t.1])->H' ud=some (.lst (us'.map V.str))->us'=zs.take us'.length->us'.length<=us.length+1->Q (.ref r) H'
def tRest:TS:=λD σ H=>∃(a c nm th ud:Addr) (N:Nat) (sh:Int) (ks us:List Str) (n:Str) (u6 u8 u9 u10:Option V),σ=[some (.ref a),some (.int (N:Int)),some (.ref nm),some (.int sh),some (.ref th),some (.ref ud),u6,some (.str n),u8,u9,u10]/\DeckAt H a c/\2<=N/\N<=24/\0<=sh/\sh<4/\H ud=some (.lst (us.map V.str))/\1<=us.length/\ud≠a/\ud≠c/\ThK H th ks/\ks.length<=100/\n ∉ ks/\
 ∀(r:Addr) (t:T4) (H':Hp),(∀b o,H b=some o->b≠a->b≠c->b≠th->H' b=some o)->DeckAt H' a c->H' r=some (.tup (Fj t))->t.1=n->Su N t->0<=t.2.2.2->t.2.2.2<=1000000000->ThK H' th (ks++[n])->D.rt (.ref r) H'
theorem pick6{v:Int}(h0:0<=v)(h1:v<6){y:Int}(y0:0<=y)(y1:y<=1000000000):∃z:Int,atI [V.int 0,.int 1,.int 1,.int 2,.int (10 ^ toNat 9),.int y] v=some (.int z)/\0<=z/\z<=1000000000:=by
 obtain⟨j,rfl⟩:∃j:Nat,v=(j:Int):=⟨v.toNat,by omega⟩
 match j,h1 with
 |0,_=>exact⟨0,rfl,by decide,by decide⟩
 |1,_=>exact⟨1,rfl,by decide,by decide⟩
 |2,_=>exact⟨1,rfl,by decide,by decide⟩
 |3,_=>exact⟨2,rfl,by decide,by decide⟩
 |4,_=>exact⟨10 ^ toNat 9,rfl,by decide,by decide⟩
 |5,_=>exact⟨y,rfl,y0,y1⟩
theorem scTie:Av ["_law_deck_here","_law_many","_law_names_here","_law_shape","_law_there","_law_used","_law_again","_law_name","_law_one","_law_other","_law_weight"] ["_law_deck_here","_law_many","_law_names_here","_law_shape","_law_there","_law_used"] (Ah sTie):=⟨rfl,rfl,rfl,by decide+kernel,rfl,by decide+kernel,by decide+kernel⟩
theorem ok_Tie{f:Addr}{fd:FuncData}(F:Fun K "_law_tie" "_law_tie" sTie f fd)(T:Txt K mg C I)(GTake:Cl P w K mg base 2 "_law_take" ["_law_deck_here","_law_most"] Gh)(GPlaces:Cl P w K mg base 2 "_law_places" ["_law_deck_here","_law_many","_law_shape","_law_turn"] K2):
  FnOk P w K mg base CX0 3 f fd ["_law_deck_here","_law_many","_law_names_here","_law_shape","_law_there","_law_used"] spTie:=by
 refine F.ok scTie (λvs H Q E h=> ?_) (λcdv A outer s H vs Q E hr h=> ?_)
 ·obtain⟨_,_,_,_,_,_,_,_,_,_,rfl,_⟩:=h;rfl
 ·obtain⟨a,c,nm,th,ud,N,sh,zs,ks,us,rfl,D0,N2,N24,h0,h4,hn,z70,znd,hu,upre,u65,hth,k100,sub,nna,nnc,una,unc,k⟩:=h;refine⟨_,Ae (Eo (i:=6) (T:=["_law_name"]) (F:=["_law_there"]) (js:=[4]) scTie.nd rfl (Or.inl rfl) (cs (osc:=Ah sTie)) rfl (Cd (pv 5)) (λ_ _ _ _ _=>Aj (i:=0) (show (["_law_name","_law_there"]:List Str).Nodup by decide+kernel) rfl (Or.inl rfl)) (λ_ _ _ _ _=>Ep (pt_cmp (Wx (Dk hr) (pv 0) (pv 1)))) (λ_ _ _ _ _=>pv 0))
   (Ae (Aq (i:=7) scTie.nd rfl (Or.inl rfl) (Ao Bc (pv 2) (A0 Ay (by rfl) T.len PySem.boot_len (Aa (pv 5) Ad)) (λ_ _=>rfl)))
   (Ae (Br (PW.pt (Hd (Ax (op_neNil hr.units) (pv 6) (Bh Ad) (Aw _)) (Fm (Ax Bq (A7 GTake hr (Aa (pv 0) (Aa Af Ad))) Af (Aw _))))) (Ag (Aq (i:=7) scTie.nd rfl (Or.inl rfl) (Ao Bc (pv 6) (A7 GTake hr (Aa (pv 0) (Aa (A0 Ay (by rfl) T.len PySem.boot_len (Aa (pv 6) Ad)) Ad))) (λ_ _=>rfl)))) (Ag (Co (De Qc3 PySem.F.slot_list_append PySem.F.type_list_append Cq (pv 5) (Aa (pv 7) Ad)))))
   (PSs.imp' (t':=tRest) (Ae (Da (A7 GPlaces hr (Aa (pv 0) (Aa (pv 1) (Aa (pv 3) (Aa (Au Fv (A0 Ay (by rfl) T.len PySem.boot_len (Aa (pv 5) Ad)) Af) Ad))))) (C8 rfl (An (Aj (i:=8) scTie.nd rfl (Or.inl rfl)) (An (Aj (i:=9) scTie.nd rfl (Or.inl rfl)) Bk))))
   (Ae (Aq (i:=10) scTie.nd rfl (Or.inl rfl) (Ao Bc (Bh (Aa Af (Aa Af (Aa Af (Aa Af (Aa (Au Hg Af Af) (Aa (A7 GTake hr (Aa (pv 0) (Aa (Au Hg Af Af) Ad))) Ad))))))) (A7 GTake hr (Aa (pv 0) (Aa Af Ad))) (λ_ _=>rfl)))
   (Ae (Kl (Dk hr) (pv 4) (pv 7) (A1 (Aa (pv 8) (Aa (pv 9) Ad))) rfl)
   (Ag (As (A1 (Aa (pv 7) (Aa (pv 8) (Aa (pv 9) (Aa (pv 10) Ad)))))))))) ?tail))),?_⟩
  case tail=>
   clear k sub hth hu hn D0;rintro D σ H ⟨a,c,nm,th,ud,N,sh,ks,us,n,u6,u8,u9,u10,rfl,D0,N2,N24,h0,h4,hu,u1,una,unc,hth,k100,nk,k⟩;refine⟨_,rfl,_,rfl,_,rfl,_,rfl,ud,_,rfl,.inl (SqL.of hu),_,_,rfl,rfl,a,c,N,sh,us.length - 1,by rw[If,show ((us.length - 1:Nat):Int)=(us.length:Int) - 1 by omega];rfl,D0,N2,N24,h0,h4,λr0 p q H1 b1 D1 er pN qN pq=> ?_⟩;refine⟨r0,_,rfl,SqT.of er,rfl,_,_,rfl,_,_,rfl,rfl,?_⟩;refine⟨_,_,rfl,rfl,⟨by decide,by decide,by decide⟩,_,rfl,_,_,rfl,rfl,⟨by decide,by decide,by decide⟩,a,c,_,rfl,D1,by decide,by decide,λy H2 y0 y1 b2 D2=>⟨small (by simp),λl hl=> ?_⟩⟩;have ln:=D2.ne' hl;have s3:=Ac (o:= .lst [.int 0,.int 1,.int 1,.int 2,.int (10 ^ toNat 9),.int y]) hl;have l3:=Ab (H:=H2) (a:=l) (o:= .lst [.int 0,.int 1,.int 1,.int 2,.int (10 ^ toNat 9),.int y]);change Ms _ _ _ _;generalize upd H2 l (.lst [.int 0,.int 1,.int 1,.int 2,.int (10 ^ toNat 9),.int y])=H3 at s3 l3;refine⟨_,rfl,a,c,6,rfl,D2.same s3,by decide,by decide,λz H4 z0 z1 b4 D4=> ?_⟩;obtain⟨wt,hw,w0,w1⟩:=pick6 z0 z1 y0 (Int.le_of_lt y1);refine⟨l,_,z,_,rfl,rfl,SqL.of (b4 _ _ l3 ln.1 ln.2),hw,?_⟩;refine⟨_,rfl,_,rfl,small (by simp),λpr hpr=> ?_⟩;have B4:=((b1.trans b2).trans (But.of s3)).trans b4;have hth4:=hth.but B4 D0;have s5:=Ac (o:= .tup [.int (p:Int),.int (q:Int)]) hpr;generalize upd H4 pr (.tup [.int (p:Int),.int (q:Int)])=H5 at s5;obtain⟨kvs,t5,ek⟩:=hth4.same s5;have B5:=B4.trans (But.of s5);have D5:=D4.same s5;have thn:th≠a/\th≠c:=by
    obtain⟨_,_,_,_,x1,x2,_⟩:=D5;exact⟨Ar t5 x1 (by intro z;cases z),Ar t5 x2 (by intro z;cases z)⟩
   refine⟨_,rfl,_,rfl,th,_,rfl,DPut.k (k:=Sum.inr n) t5 (Ap (by rw[Gi ek];omega)),?_⟩;have T6:ThK (upd H5 th (.dK (Bw kvs (Sum.inr n) (.ref pr)))) th (ks++[n]):=⟨_,Ab,keys_put ek nk⟩
   have D6:DeckAt (upd H5 th (.dK (Bw kvs (Sum.inr n) (.ref pr)))) a c:=D5.upd thn;have M6:∀b o,H b=some o->b≠a->b≠c->b≠th->upd H5 th (.dK (Bw kvs (Sum.inr n) (.ref pr))) b=some o:=λb o e n1 n2 n3=>by rw[Ai n3];exact B5 b o e n1 n2
   generalize upd H5 th (.dK (Bw kvs (Sum.inr n) (.ref pr)))=H6 at T6 D6 M6;refine⟨_,rfl,_,rfl,_,rfl,_,rfl,small (by simp),λr hr'=> ?_⟩;have s7:=Ac (o:= .tup [.str n,.int (p:Int),.int (q:Int),.int wt]) hr';exact k r (n,p,q,wt) _ (λb o e n1 n2 n3=>s7 _ _ (M6 b o e n1 n2 n3)) (D6.same s7) Ab rfl ⟨pN,qN,pq⟩ w0 w1 (T6.same s7)
  obtain⟨kvs,t0,ek⟩:=id hth;refine⟨_,rfl,ud,rfl,⟨_,SqL.of hu⟩,λF hF=>Cz (K:=K) (a:=ud) (xs:=us.map V.str) (λj σ ys H7=>∃(u:Option V),σ=[u,some (.ref th)]/\ys=((us.take j).filter λn=> !decide (n∈ks)).map V.str/\Same H H7/\H7 F=some (.lst ys)) ⟨none,rfl,rfl,Ac hF,Ab⟩ (λj σ ys H7 _ ⟨_,_,_,e,f⟩=>⟨SqL.of (e _ _ hu),f⟩) ?_ ?_⟩
  ·rintro j x σ ys H7 hx ⟨u,rfl,rfl,s7,F7⟩;obtain⟨z,hz,rfl⟩:=map_some hx;have tk:us.take (j+1)=us.take j++[z]:=by rw[Qb2,hz];rfl
   have lf:((us.take j).filter λn=> !decide (n∈ks)).length<=70:=le_trans (Qd1 _ _) (by rw[Qb0];omega);refine⟨_,rfl,_,rfl,th,_,rfl,DGet.k (k:=Sum.inr z) (s7 _ _ t0),_,rfl,?_⟩;rw[Gq z ek];by_cases g:z∈ks
   ·rw[decide_eq_true g];exact C4 ⟨_,rfl,by rw[tk,filter_append];simp[g],s7,F7⟩
   ·rw[decide_eq_false g];exact Ew ⟨_,rfl,F7,Ap (by rw[If];omega),_,rfl,by rw[tk,filter_append,map_append];simp[g],A8 s7 hF,Ab⟩
  rintro σ ys H7 ⟨u,rfl,rfl,s7,F7⟩;rw[If,Qb8] at F7;have fl:(us.filter λn=> !decide (n∈ks)).length<=70:=le_trans (Qd1 _ _) (by omega);have fm:∀n∈us.filter λn=> !decide (n∈ks),n∈us/\n ∉ ks:=λn hn=>by
   obtain⟨x,y⟩:=mem_filter.mp hn;exact⟨x,by simpa using y⟩
  generalize (us.filter λn=> !decide (n∈ks))=fz at F7 fl fm;have hu7:=s7 _ _ hu;have hn7:=s7 _ _ hn;have iu:us.length<zs.length:=by omega
  have hz0:=Cc iu;have nin:zs[us.length] ∉ us:=λhin=>by
   have hin:zs[us.length]∈zs.take us.length:=by rw[<-upre];exact hin
   obtain⟨i,hi,e⟩:=List.mem_iff_getElem.mp hin;rw[List.getElem_take] at e;rw[Qb0] at hi;have:=(getElem_inj znd).mp e;omega
  generalize zs[us.length]=n0 at hz0 nin;refine⟨_,rfl,_,rfl,ud,_,rfl,.inl (SqL.of hu7),nm,_,_,_,rfl,rfl,SqL.of hn7,by rw[If];exact Am (by rw[getElem?_map,hz0];rfl),?_⟩;refine⟨_,rfl,small (by simp),λe he=> ?_⟩;have Fn:=D0.ne' hF;have D7:=D0.same s7;have s8:=Ac (o:= .lst []) he;have e8:=Ab (H:=H7) (a:=e) (o:= .lst []);generalize upd H7 e (.lst [])=H8 at s8 e8;have F8:=s8 _ _ F7;have D8:=D7.same s8;have S8:=s7.trans s8;have new:∀(H9:Hp) (E9:Ey) (u8 u9 u10:Option V),But a c H H9->DeckAt H9 a c->E9.rt=Q->(∀H',H'=upd H9 ud (.lst ((us++[n0]).map V.str))->tRest E9 [some (.ref a),some (.int (N:Int)),some (.ref nm),some (.int sh),some (.ref th),some (.ref ud),some (.ref F),some (.str n0),u8,u9,u10] H'):=λH9 E9 u8 u9 u10 b9 D9 eQ H' eH=>by
   have hth9:=hth.but b9 D0;obtain⟨kv9,t9,ek9⟩:=id hth9;have hu9:=b9 _ _ hu una unc;refine⟨a,c,nm,th,ud,N,sh,ks,us++[n0],n0,_,_,_,_,rfl,by rw[eH];exact D9.upd ⟨una,unc⟩,N2,N24,h0,h4,by rw[eH];exact Ab,by simp,una,unc,⟨kv9,by rw[eH,Ai (Ar t9 hu9 (by intro z;cases z))];exact t9,ek9⟩,k100,λz=>nin (sub _ z),λr t H'' M D'' er et tok w0 w1 T''=> ?_⟩;rw[eQ];have hud:H'' ud=some (.lst ((us++[n0]).map V.str)):=M ud _ (by rw[eH];exact Ab) una unc (Ar hu9 t9 (by intro z;cases z));refine k r t (us++[n0]) H'' (λb o e n1 n2 n3 n4=>M b o (by rw[eH,Ai n4];exact b9 b o e n1 n2) n1 n2 n3) D'' er (by rw[et];exact λz=>nin (sub _ z)) (by rw[et];simp) (λn hn=>mem_append_left _ hn) tok w0 w1 (by rw[et];exact T'') hud ?_ (by simp);rw[Qa3];show _=zs.take (us.length+1);rw[Qb2,<-upre,hz0];rfl
  refine⟨F,e,_,rfl,rfl,SqL.of F8,SqL.of e8,_,rfl,B7 (λg=> ?_) λg=>C4 ?_⟩
  rotate_left
  ·exact⟨_,rfl,.inl ⟨rfl,_,SqL.of (s8 _ _ hu7)⟩,_,rfl,ud,_,_,rfl,rfl,s8 _ _ hu7,Ap (by rw[If];omega),new H8 _ _ _ _ (But.of S8) D8 rfl _ (by rw[map_append];rfl)⟩
  have f0:0<fz.length:=by
   cases fz with
   |nil=>exact absurd g (by simp)
   |cons q qs=>simp
  refine⟨_,rfl,a,c,3,rfl,D8,by decide,by decide,λv H9 v0 v1 b9 D9=>⟨rfl,_,rfl,B7 (λg2=> ?_) λg2=> ?_⟩⟩
  ·refine⟨_,rfl,_,rfl,_,rfl,F,_,rfl,.inl (SqL.of (b9 _ _ F8 Fn.1 Fn.2)),a,c,_,rfl,D9,by rw[If];omega,by rw[If];omega,λx HA x0 x1 bA DA=> ?_⟩;rw[If] at x1;obtain⟨i,rfl⟩:=Gk x0;have hi:=Cc (show i<fz.length by omega);have hfm:=fm _ (mem_of_getElem? hi);generalize fz[i]=n1 at hi hfm;have B:=((But.of S8).trans b9).trans bA;have FA:=bA _ _ (b9 _ _ F8 Fn.1 Fn.2) Fn.1 Fn.2;refine⟨F,_,_,_,rfl,rfl,SqL.of FA,Am (by rw[getElem?_map,hi];rfl),?_⟩;have huA:=B _ _ hu una unc;obtain⟨kvA,tA,ekA⟩:=hth.but B D0;refine⟨a,c,nm,th,ud,N,sh,ks,us,n1,_,_,_,_,rfl,DA,N2,N24,h0,h4,huA,Qg3 hfm.1,una,unc,⟨kvA,tA,ekA⟩,k100,hfm.2,λr t H'' M D'' er et tok w0 w1 T''=> ?_⟩;have hud:H'' ud=some (.lst (us.map V.str)):=M ud _ huA una unc (Ar huA tA (by intro z;cases z));exact k r t us H'' (λb o e n1 n2 n3 n4=>M b o (B b o e n1 n2) n1 n2 n3) D'' er (by rw[et];exact hfm.2) (by rw[et];exact hfm.1) (λn hn=>hn) tok w0 w1 (by rw[et];exact T'') hud upre (by omega)
  ·have hu9:=b9 _ _ (s8 _ _ hu7) una unc;exact⟨_,rfl,.inl ⟨rfl,_,SqL.of hu9⟩,_,rfl,ud,_,_,rfl,rfl,hu9,Ap (by rw[If];omega),new H9 _ _ _ _ ((But.of S8).trans b9) D9 rfl _ (by rw[map_append];rfl)⟩
theorem Mf{N:Nat}{ds:List Dd}{d:Dd}(h:Db N ds)(ok:DdOk N (thr ds) d)(l:ds.length<60)(m:0<=d.mo/\d.mo<=1000000000)(up:∀x∈ds,x.mo<=d.mo)(wt:∀m t,d= .come m t->0<=t.2.2.2/\t.2.2.2<=1000000000):Db N (ds++[d]):=by
 refine⟨λi x e=> ?_,by simp;omega,λx hx=> ?_,?_,λm' t hx=> ?_⟩
 ·rw[getElem?_append] at e;split at e
  ·rename_i hi;rw[List.take_append_of_le_length (by exact le_of_lt (by assumption))];exact h.ok i x e
  ·have hi:i - ds.length=0:=by
    have:=(List.getElem?_eq_some_iff.mp e).1;simp at this;assumption
   rw[hi] at e;cases e;rw[show i=ds.length by omega,List.take_left];exact ok
 ·rcases mem_append.mp hx with q|q
  ·exact h.mo x q
  ·rw[mem_singleton.mp q];exact m
 ·refine Qg2.mpr ⟨h.up,Qf2 ..,λx hx y hy=> ?_⟩;rw[mem_singleton.mp hy];exact up x hx
 ·rcases mem_append.mp hx with q|q
  ·exact h.wt m' t q
  ·exact wt m' t (mem_singleton.mp q).symm
theorem Qp{H H':Hp}{rs:List Addr}{ds:List Dd}{r:Addr}{d:Dd}(h:DdsAt H rs ds)(f:∀a xs,H a=some (.tup xs)->H' a=some (.tup xs))(hr:H' r=some (.tup d.vs)):DdsAt H' (rs++[r]) (ds++[d]):=by
 refine⟨by simp[h.1],λi a x ha hx=> ?_⟩;rw[getElem?_append] at ha hx;by_cases hi:i<rs.length
 ·rw[Qa2 hi] at ha;rw[Qa2 (by rw[<-h.1];exact hi)] at hx;exact f _ _ (h.2 i a x ha hx)
 ·rw[Qa1 hi] at ha;rw[Qa1 (by rw[<-h.1];exact hi),<-h.1] at hx;have:i - rs.length=0:=by
   have:=(List.getElem?_eq_some_iff.mp ha).1;simp at this;assumption
  rw[this] at ha hx;cases ha;cases hx;exact hr
structure HD(a c th ud nm de:Addr)(zs ks us:List Str)(rs:List Addr)(ds:List Dd)(H0 H:Hp):Prop where
 bt:But a c H0 H
 dk:DeckAt H a c
 hn:H nm=some (.lst (zs.map V.str))
 hu:H ud=some (.lst (us.map V.str))
 ht:ThK H th ks
 hd:H de=some (.lst (rs.map V.ref))
 dd:DdsAt H rs ds
structure HSt(a c th ud nm de:Addr)(H0:Hp):Prop where
 nn:nm≠a/\nm≠c
 un:ud≠a/\ud≠c
 dn:de≠a/\de≠c
 tn:th≠a/\th≠c
 du:de≠ud
 dm:de≠nm
 um:ud≠nm
 h0t:H0 th=none
 h0u:H0 ud=none
 h0d:H0 de=none
structure HP(N:Nat)(zs ks us:List Str)(mo:Int)(ds:List Dd):Prop where
 nk:ks.Nodup
 sub:∀n∈ks,n∈us
 mem:∀n,n∈ks↔n∈(thr ds).map (·.1)
 pre:us=zs.take us.length
 ul:us.length<=ds.length
 rt:Db N ds
 m0:0<=mo
 m1:mo<=1000000000
 mu:∀x∈ds,x.mo<=mo
theorem HD.but{a c th ud nm de:Addr}{zs ks us:List Str}{rs:List Addr}{ds:List Dd}{H0 H H':Hp}(S:HSt a c th ud nm de H0)(I:HD a c th ud nm de zs ks us rs ds H0 H)(b:But a c H H')(D:DeckAt H' a c):HD a c th ud nm de zs ks us rs ds H0 H':=
 ⟨I.bt.trans b,D,b _ _ I.hn S.nn.1 S.nn.2,b _ _ I.hu S.un.1 S.un.2,I.ht.but b I.dk,b _ _ I.hd S.dn.1 S.dn.2,I.dd.mono λr xs e=>b.tup I.dk e⟩
theorem HD.same{a c th ud nm de:Addr}{zs ks us:List Str}{rs:List Addr}{ds:List Dd}{H0 H H':Hp}(S:HSt a c th ud nm de H0)(I:HD a c th ud nm de zs ks us rs ds H0 H)(s:Same H H'):HD a c th ud nm de zs ks us rs ds H0 H':=I.but S (But.of s) (I.dk.same s)
theorem HP.len{N:Nat}{zs ks us:List Str}{mo:Int}{ds:List Dd}(P:HP N zs ks us mo ds):ks.length<=ds.length:=by
 have h1:=Rg ks ((thr ds).map (·.1)) P.nk λn hn=>(P.mem n).mp hn;have h2:=Gx ds ds.length;rw[Qb8] at h2;rw[If] at h1;omega
theorem pick6b{v:Int}(h0:0<=v)(h1:v<6){x y:Int}(x0:0<=x)(y0:0<=y):∃z:Int,atI [V.int 0,.int 1,.int 0,.int 2,.int x,.int y] v=some (.int z)/\0<=z:=by
 obtain⟨j,rfl⟩:∃j:Nat,v=(j:Int):=⟨v.toNat,by omega⟩
 match j,h1 with
 |0,_=>exact⟨0,rfl,by decide⟩
 |1,_=>exact⟨1,rfl,by decide⟩
 |2,_=>exact⟨0,rfl,by decide⟩
 |3,_=>exact⟨2,rfl,by decide⟩
 |4,_=>exact⟨x,rfl,x0⟩
 |5,_=>exact⟨y,rfl,y0⟩
theorem pick4b{v:Int}(h0:0<=v)(h1:v<4){y:Int}(y0:0<=y)(y1:y<=1000000000):∃z:Int,atI [V.int 0,.int 0,.int y,.int (10 ^ toNat 9 - 3)] v=some (.int z)/\0<=z/\z<=1000000000:=by
 obtain⟨j,rfl⟩:∃j:Nat,v=(j:Int):=⟨v.toNat,by omega⟩
 match j,h1 with
 |0,_=>exact⟨0,rfl,by decide,by decide⟩
 |1,_=>exact⟨0,rfl,by decide,by decide⟩
 |2,_=>exact⟨y,rfl,y0,y1⟩
 |3,_=>exact⟨10 ^ toNat 9 - 3,rfl,by decide,by decide⟩
def O8:Sp:=λvs H Q _=>∃(a c nm:Addr) (N C:Nat) (zs:List Str),vs=[.ref a,.int (N:Int),.ref nm,.int (C:Int)]/\DeckAt H a c/\1<=N/\N<=24/\H nm=some (.lst (zs.map V.str))/\zs.length=70/\zs.Nodup/\nm≠a/\nm≠c/\C<=60/\
 ∀(r:Addr) (rs:List Addr) (ds:List Dd) (H':Hp),But a c H H'->DeckAt H' a c->H' r=some (.tup (rs.map V.ref))->DdsAt H' rs ds->Db N ds->Q (.ref r) H'
theorem scDeeds:Av ["_law_deck_here","_law_many","_law_names_here","_law_count","_law_there","_law_used","_law_deeds_here","_law_shape","_law_moment","_law_k","_law_name"] ["_law_deck_here","_law_many","_law_names_here","_law_count"] (Ah Ui):=⟨rfl,rfl,rfl,by decide+kernel,rfl,by decide+kernel,by decide+kernel⟩
theorem Z4{f:Addr}{fd:FuncData}(F:Fun K "_law_deeds" "_law_deeds" Ui f fd)(T:Txt K mg C I)(GTake:Cl P w K mg base 3 "_law_take" ["_law_deck_here","_law_most"] Gh)(GTie:Cl P w K mg base 3 "_law_tie" ["_law_deck_here","_law_many","_law_names_here","_law_shape","_law_there","_law_used"] spTie):
  FnOk P w K mg base CX0 4 f fd ["_law_deck_here","_law_many","_law_names_here","_law_count"] O8:=by
 refine F.ok scDeeds (λvs H Q E h=> ?_) (λcdv A outer s H vs Q E hr h=> ?_)
 ·obtain⟨_,_,_,_,_,_,rfl,_⟩:=h;rfl
 ·obtain⟨a,c,nm,N,C,zs,rfl,D0,N1,N24,hn,z70,znd,nna,nnc,C60,k⟩:=h;refine⟨_,Ae (Aq (i:=4) scDeeds.nd rfl (Or.inl rfl) Io)
   (Ae (Aq (i:=5) scDeeds.nd rfl (Or.inl rfl) (Bh Ad))
   (Ae (Aq (i:=6) scDeeds.nd rfl (Or.inl rfl) (Bh Ad))
   (Ae (Aq (i:=7) scDeeds.nd rfl (Or.inl rfl) (A7 GTake hr (Aa (pv 0) (Aa Af Ad))))
   (Ae (Aq (i:=8) scDeeds.nd rfl (Or.inl rfl) (Ao Bc (Bh (Aa Af (Aa Af (Aa (A7 GTake hr (Aa (pv 0) (Aa (Au Hg Af Af) Ad))) (Aa (Au Fv (Au Hg Af Af) Af) Ad))))) (A7 GTake hr (Aa (pv 0) (Aa Af Ad))) (λ_ _=>rfl)))
   (Ae (Cb PassesOwn.never rfl (Cj rfl T.range (Aa (Au Mc (pv 3) (Bb Gv (by rfl) T.int (by decide+kernel) (Aa (Cr op_gt (pv 1) Af (Aw _)) Ad))) Ad)) (Aj (i:=9) scDeeds.nd rfl (Or.inl rfl)) (Ae (Aq (i:=8) scDeeds.nd rfl (Or.inl rfl) (A0 (Gm rfl) (by rfl) T.min (by decide+kernel) (Aa (Au Hg Af Af) (Aa (Au Bi (pv 8) (Ao Bc (Bh (Aa Af (Aa Af (Aa Af (Aa Af (Aa (A7 GTake hr (Aa (pv 0) (Aa Af Ad))) (Aa (A7 GTake hr (Aa (pv 0) (Aa (Au Hg Af Af) Ad))) Ad))))))) (A7 GTake hr (Aa (pv 0) (Aa Af Ad))) (λ_ _=>rfl))) Ad))))
   (Ag (Br (PW.pt (Hd (Ax (Xp hr.units0) (pv 4) Io (Aw _)) (Fm (Ax Bq (A7 GTake hr (Aa (pv 0) (Aa Af Ad))) Af (Aw _))))) (Ae (Aq (i:=10) scDeeds.nd rfl (Or.inl rfl) (Ao Bc (A0 (Srt.call_sortedD rfl) (by rfl) T.sorted (by decide+kernel) (Aa (pv 4) Ad)) (A7 GTake hr (Aa (pv 0) (Aa (A0 Yq (by rfl) T.len PySem.boot_len (Aa (pv 4) Ad)) Ad))) (λ_ _=>rfl)))
   (Ae (Co (Zb (pv 4) (pv 10) ⟨rfl,rfl,rfl,rfl⟩))
   (Ag (Co (De Qc3 PySem.F.slot_list_append PySem.F.type_list_append Cq (pv 6) (Aa (A1 (Aa Bs (Aa (pv 8) (Aa (pv 10) Ad)))) Ad)))))) (Ag (Co (De Qc3 PySem.F.slot_list_append PySem.F.type_list_append Cq (pv 6) (Aa (Au Ib (A1 (Aa Bs (Aa (pv 8) Ad))) (A7 GTie hr (Aa (pv 0) (Aa (pv 1) (Aa (pv 2) (Aa (pv 7) (Aa (pv 4) (Aa (pv 5) Ad)))))))) Ad))))))))
   (Ag (As (Bb Ba (by rfl) T.tuple (by decide+kernel) (Aa (pv 6) Ad))))))))),?_⟩
  refine λth hth=> ?_;have s1:=Ac (o:= .dK []) hth;have t1:=Ab (H:=H) (a:=th) (o:= .dK []);have tn:=D0.ne' hth;generalize upd H th (.dK [])=H1 at s1 t1;refine⟨small (by simp),λud hud=> ?_⟩;have D1:=D0.same s1;have un:=D1.ne' hud;have h0u:=s1.free hud;have s2:=Ac (o:= .lst []) hud;have u2:=Ab (H:=H1) (a:=ud) (o:= .lst []);have um:ud≠nm:=(Al (s1 _ _ hn) hud).symm;generalize upd H1 ud (.lst [])=H2 at s2 u2;refine⟨small (by simp),λde hde=> ?_⟩;have D2:=D1.same s2;have dn:=D2.ne' hde;have h0d:=(s1.trans s2).free hde;have s3:=Ac (o:= .lst []) hde;have d3:=Ab (H:=H2) (a:=de) (o:= .lst []);have dm:de≠nm:=(Al ((s1.trans s2) _ _ hn) hde).symm;have du:de≠ud:=(Al u2 hde).symm;generalize upd H2 de (.lst [])=H3 at s3 d3;have SS:HSt a c th ud nm de H:=⟨⟨nna,nnc⟩,un,dn,tn,du,dm,um,hth,h0u,h0d⟩
  have s13:=(s1.trans s2).trans s3;have I3:HD a c th ud nm de zs [] [] [] [] H H3:=⟨But.of s13,D2.same s3,s13 _ _ hn,s3 _ _ u2,⟨[],s3 _ _ (s2 _ _ t1),rfl⟩,d3,rfl,λi r d e=>by simp at e⟩
  refine⟨_,rfl,a,c,4,rfl,I3.dk,by decide,by decide,λsh H4 h0 h4 b4 D4=> ?_⟩;have I4:=I3.but SS b4 D4;refine⟨_,rfl,_,_,rfl,rfl,⟨by decide,by decide,by decide⟩,a,c,_,rfl,D4,by decide,by decide,λy H5 y0 y1 b5 D5=>⟨_,_,rfl,rfl,⟨by decide,by decide,by decide⟩,_,_,rfl,rfl,small (by simp),λl hl=> ?_⟩⟩;have I5:=I4.but SS b5 D5;have ln:=D5.ne' hl;have sl:=Ac (o:= .lst [.int 0,.int 0,.int y,.int (10 ^ toNat 9 - 3)]) hl;have l6:=Ab (H:=H5) (a:=l) (o:= .lst [.int 0,.int 0,.int y,.int (10 ^ toNat 9 - 3)]);have I6:=I5.same SS sl;change Ms _ _ _ _;generalize upd H5 l (.lst [.int 0,.int 0,.int y,.int (10 ^ toNat 9 - 3)])=H6 at sl l6 I6;refine⟨_,rfl,a,c,4,rfl,I6.dk,by decide,by decide,λz H7 z0 z1 b7 D7=> ?_⟩;obtain⟨mo,hmo,m0,m1⟩:=pick4b z0 z1 y0 (Int.le_of_lt y1);refine⟨l,_,z,_,rfl,rfl,SqL.of (b7 _ _ l6 ln.1 ln.2),hmo,?_⟩;have I7:=I6.but SS b7 D7;clear I3 I4 I5 I6 b4 b5 b7 l6 sl D7 D5 D4 s13 s1 s2 s3 t1 u2 d3;obtain⟨M,hM,eM,M2⟩:∃M:Nat,M<=60/\(C:Int) * (if decide ((1:Int)<(N:Int))=true then (1:Int) else 0)=(M:Int)/\(0<M->2<=N):=by
   by_cases g:(1:Int)<(N:Int)
   ·exact⟨C,C60,by rw[decide_eq_true g];simp,λ_=>by omega⟩
   ·exact⟨0,by omega,by rw[decide_eq_false g];simp,λh=>absurd h (by omega)⟩
  refine⟨_,rfl,_,rfl,_,_,rfl,rfl,.inr ⟨_,rfl,_,_,rfl,rfl,.inl ⟨by omega,by omega⟩,(M:Int),?_,by omega,by omega,Fd (lo:=0) (n:=(M:Int).toNat) (λi σ H8=>∃(mo:Int) (u9 u10:Option V) (ks us:List Str) (rs:List Addr) (ds:List Dd),σ=[some (.ref a),some (.int (N:Int)),some (.ref nm),some (.int (C:Int)),some (.ref th),some (.ref ud),some (.ref de),some (.int sh),some (.int mo),u9,u10]/\HD a c th ud nm de zs ks us rs ds H H8/\HP N zs ks us mo ds/\ds.length=i) ⟨mo,_,_,[],[],[],[],rfl,I7,⟨nodup_nil,(by simp),(λn=>by simp[thr]),rfl,le_refl _,⟨(λi d e=>by simp at e),(by simp),(by simp),Pairwise.nil,λm t h=>by cases h⟩,m0,m1,by simp⟩,rfl⟩ ?_ ?_⟩⟩
  ·rw[<-eM]
  ·rintro i σ H8 hi ⟨mo,u9,u10,ks,us,rs,ds,rfl,I8,P,dl⟩;have hi:i<M:=by simpa using hi
   have N2:=M2 (by omega);have kl:=P.len;have m0:=P.m0;have m1:=P.m1;refine⟨_,_,rfl,rfl,⟨by decide,by decide,by decide⟩,_,rfl,_,rfl,a,c,99,rfl,I8.dk,by decide,by decide,λx H9 x0 x1 b9 D9=> ?_⟩;refine⟨_,rfl,_,_,rfl,rfl,⟨by decide,by decide,by decide⟩,a,c,_,rfl,D9,by decide,by decide,λy HA y0 y1 bA DA=>⟨small (by simp),λl hl=> ?_⟩⟩;have IA:=(I8.but SS b9 D9).but SS bA DA;have ln:=DA.ne' hl;have sl:=Ac (o:= .lst [.int 0,.int 1,.int 0,.int 2,.int x,.int y]) hl;have lB:=Ab (H:=HA) (a:=l) (o:= .lst [.int 0,.int 1,.int 0,.int 2,.int x,.int y]);have IB:=IA.same SS sl;change Ms _ _ _ _;generalize upd HA l (.lst [.int 0,.int 1,.int 0,.int 2,.int x,.int y])=HB at sl lB IB;refine⟨_,rfl,a,c,6,rfl,IB.dk,by decide,by decide,λz HC z0 z1 bC DC=> ?_⟩;obtain⟨gp,hgp,g0⟩:=pick6b z0 z1 x0 y0;refine⟨l,_,z,_,rfl,rfl,SqL.of (bC _ _ lB ln.1 ln.2),hgp,_,_,rfl,rfl,_,_,rfl,?_⟩;have IC:=IB.but SS bC DC;obtain⟨mo',em,mm0,mm1,mm2⟩:∃mo':Int,(if mo+gp<10 ^ (9:Int).toNat then mo+gp else 10 ^ (9:Int).toNat)=mo'/\0<=mo'/\mo'<=1000000000/\mo<=mo':=by
    have e9:(10:Int) ^ (9:Int).toNat=1000000000:=by decide
    rw[e9];refine⟨_,rfl,?_,?_,?_⟩<;> split<;> omega
   rw[em];have mu':∀x∈ds,x.mo<=mo':=λx hx=>Int.le_trans (P.mu x hx) mm2;clear em hgp lB sl b9 bA bC D9 DA DC I8 IA IB;refine⟨_,rfl,λe he=> ?_⟩;have se:=Ac (o:= .dK []) he;have eD:=Ab (H:=HC) (a:=e) (o:= .dK []);have ID:=IC.same SS se;generalize upd HC e (.dK [])=HD' at se eD ID;clear IC se;have rl:=ID.dd.1;have come:∀(HE:Hp) (E:Ey) (u10:Option V),HD a c th ud nm de zs ks us rs ds H HE->(∀σ H8,(∃(mo:Int) (u9 u10:Option V) (ks us:List Str) (rs:List Addr) (ds:List Dd),σ=[some (.ref a),some (.int (N:Int)),some (.ref nm),some (.int (C:Int)),some (.ref th),some (.ref ud),some (.ref de),some (.int sh),some (.int mo),u9,u10]/\HD a c th ud nm de zs ks us rs ds H H8/\HP N zs ks us mo ds/\ds.length=i+1)->E.nx σ H8)->∀c0,HE c0=none->∀(r:Addr) (t:T4) (us':List Str) (HG:Hp),Zo a c th ud (upd HE c0 (.tup [.str (Str.ofString "come"),.int mo'])) HG->DeckAt HG a c->HG r=some (.tup (Fj t))->t.1 ∉ ks->t.1∈us'->(∀n∈us,n∈us')->Su N t->0<=t.2.2.2->t.2.2.2<=1000000000->ThK HG th (ks++[t.1])->HG ud=some (.lst (us'.map V.str))->us'=zs.take us'.length->us'.length<=us.length+1->∀g,HG g=none->E.nx [some (.ref a),some (.int (N:Int)),some (.ref nm),some (.int (C:Int)),some (.ref th),some (.ref ud),some (.ref de),some (.int sh),some (.int mo'),some (.int (0+(i:Int))),u10] (upd (upd HG g (.tup ([V.str (Str.ofString "come"),V.int mo']++Fj t))) de (.lst (rs.map V.ref++[.ref g]))):=by
    intro HE E u10 IE hE c0 hc0 r t us' HG MG DG er nk tin usub tok w0 w1 TG uG upre' ul' g hg;have sc:=Ac (o:= .tup [.str (Str.ofString "come"),.int mo']) hc0;have IF:=IE.same SS sc;obtain⟨kvF,tF,_⟩:=IF.ht;have sg:=Ac (o:= .tup (Dd.come mo' t).vs) hg;have gg:=Ab (H:=HG) (a:=g) (o:= .tup (Dd.come mo' t).vs);have dG:HG de=some (.lst (rs.map V.ref)):=MG _ _ IF.hd SS.dn.1 SS.dn.2 (Ar IF.hd tF (by intro z;cases z)) SS.du;have nG:HG nm=some (.lst (zs.map V.str)):=MG _ _ IF.hn SS.nn.1 SS.nn.2 (Ar IF.hn tF (by intro z;cases z)) SS.um.symm;have tG:∀b xs,HE b=some (.tup xs)->HG b=some (.tup xs):=λb xs e=>by
     obtain⟨_,_,_,_,x1,x2,_⟩:=IF.dk;have e:=sc _ _ e;exact MG b _ e (Ar e x1 (by intro z;cases z)) (Ar e x2 (by intro z;cases z)) (Ar e tF (by intro z;cases z)) (Ar e IF.hu (by intro z;cases z))
    show E.nx _ (upd (upd HG g (.tup (Dd.come mo' t).vs)) de (.lst (rs.map V.ref++[.ref g])));have dg:=sg _ _ dG;have D2g:=DG.same sg;have bg:But a c H (upd HG g (.tup (Dd.come mo' t).vs)):=λb o e n1 n2=>by
     have:=IF.bt b o e n1 n2;refine sg _ _ (MG b o this n1 n2 (λz=> ?_) λz=> ?_)
     ·subst z;rw[SS.h0t] at e;cases e
     ·subst z;rw[SS.h0u] at e;cases e
    have ng:=sg _ _ nG;have ug:=sg _ _ uG;have Tg:=TG.same sg;generalize upd HG g (.tup (Dd.come mo' t).vs)=HK at sg gg dg D2g bg ng ug Tg;have tK:∀b xs,HK b=some (.tup xs)->upd HK de (.lst (rs.map V.ref++[.ref g])) b=some (.tup xs):=λb xs e=>by rw[Ai (Ar e dg (by intro z;cases z))];exact e
    obtain⟨kvK,tKK,ekK⟩:=Tg;refine hE _ _ ⟨mo',_,_,ks++[t.1],us',rs++[g],ds++[.come mo' t],rfl,⟨bg.set SS.h0d,D2g.upd SS.dn,by rw[Ai SS.dm.symm];exact ng,by rw[Ai SS.du.symm];exact ug,⟨kvK,by rw[Ai (Ar tKK dg (by intro z;cases z))];exact tKK,ekK⟩,by rw[Ab,map_append];rfl,Qp (H:=HE) IE.dd (λb xs e=>tK _ _ (sg _ _ (tG b xs e))) (tK _ _ gg)⟩,⟨?_,?_,?_,upre',?_,Mf (d:= .come mo' t) P.rt ⟨?_,tok⟩ (by omega) ⟨mm0,mm1⟩ mu' (λm' t' e=>by cases e;exact⟨w0,w1⟩),mm0,mm1,?_⟩,by rw[Qa3,dl];rfl⟩
    ·exact nodup_append.mpr ⟨P.nk,by simp,λx hx y hy=>by rw[mem_singleton.mp hy];rintro rfl;exact nk hx⟩
    ·intro n hn;rcases mem_append.mp hn with q|q
     ·exact usub n (P.sub n q)
     ·rw[mem_singleton.mp q];exact tin
    ·intro n;rw[C9];show _↔n∈(thr ds++[t]).map (·.1);rw[map_append,mem_append,mem_append,P.mem];rfl
    ·rw[Qa3];have:=P.ul;show _<=ds.length+1;omega
    ·exact λz=>nk ((P.mem _).mpr z)
    ·intro x hx;rcases mem_append.mp hx with q|q
     ·exact mu' x q
     ·rw[mem_singleton.mp q];exact Int.le_refl _
   obtain⟨kvs,tD,ekD⟩:=ID.ht;refine⟨th,e,_,rfl,rfl,tD,eD,_,rfl,B7 (λg=> ?_) λg=>C4 ?_⟩
   rotate_left
   ·refine⟨_,rfl,.inl ⟨rfl,_,SqL.of ID.hd⟩,_,rfl,small (by simp),λc0 hc=> ?_⟩;have sc:=Ac (o:= .tup [.str (Str.ofString "come"),.int mo']) hc;have c3:=Ab (H:=HD') (a:=c0) (o:= .tup [.str (Str.ofString "come"),.int mo']);have IF:=ID.same SS sc;refine⟨_,rfl,_,rfl,_,rfl,_,rfl,_,rfl,_,rfl,a,c,nm,th,ud,N,sh,zs,ks,us,rfl,IF.dk,N2,N24,h0,h4,IF.hn,z70,znd,IF.hu,P.pre,by have:=P.ul;omega,IF.ht,by omega,P.sub,nna,nnc,SS.un.1,SS.un.2,λr t us' HG MG DG er nk tin usub tok w0 w1 TG uG upre' ul'=> ?_⟩;have cG:HG c0=some (.tup [.str (Str.ofString "come"),.int mo']):=by
     obtain⟨_,_,_,_,x1,x2,_⟩:=IF.dk;obtain⟨kvF,tF,_⟩:=IF.ht;exact MG c0 _ c3 (Ar c3 x1 (by intro z;cases z)) (Ar c3 x2 (by intro z;cases z)) (Ar c3 tF (by intro z;cases z)) (Ar c3 IF.hu (by intro z;cases z))
    have dG:HG de=some (.lst (rs.map V.ref)):=by
     obtain⟨kvF,tF,_⟩:=IF.ht;exact MG _ _ IF.hd SS.dn.1 SS.dn.2 (Ar IF.hd tF (by intro z;cases z)) SS.du
    refine⟨c0,r,_,_,rfl,rfl,SqT.of cG,SqT.of er,small (by simp[Fj]),λe=>absurd e (by simp),λ_ e=>absurd e (by simp[Fj]),λ_ _ gg hg=>⟨de,_,_,rfl,rfl,Ac hg _ _ dG,Ap (by rw[If];omega),?_⟩⟩;exact come HD' _ _ ID (λσ H8 h=>h) c0 hc r t us' HG MG DG er nk tin usub tok w0 w1 TG uG upre' ul' gg hg
   have k0:0<ks.length:=by
    rw[<-Gi ekD];cases kvs with
    |nil=>exact absurd g (by simp)
    |cons q qs=>simp
   refine⟨_,rfl,a,c,3,rfl,ID.dk,by decide,by decide,λv HE v0 v1 bE DE=>⟨rfl,_,rfl,B7 (λg2=> ?_) λg2=> ?_⟩⟩
   rotate_left
   ·have IE:=ID.but SS bE DE;refine⟨_,rfl,.inl ⟨rfl,_,SqL.of IE.hd⟩,_,rfl,small (by simp),λc0 hc=> ?_⟩;have sc:=Ac (o:= .tup [.str (Str.ofString "come"),.int mo']) hc;have c3:=Ab (H:=HE) (a:=c0) (o:= .tup [.str (Str.ofString "come"),.int mo']);have IF:=IE.same SS sc;refine⟨_,rfl,_,rfl,_,rfl,_,rfl,_,rfl,_,rfl,a,c,nm,th,ud,N,sh,zs,ks,us,rfl,IF.dk,N2,N24,h0,h4,IF.hn,z70,znd,IF.hu,P.pre,by have:=P.ul;omega,IF.ht,by omega,P.sub,nna,nnc,SS.un.1,SS.un.2,λr t us' HG MG DG er nk tin usub tok w0 w1 TG uG upre' ul'=> ?_⟩;have cG:HG c0=some (.tup [.str (Str.ofString "come"),.int mo']):=by
     obtain⟨_,_,_,_,x1,x2,_⟩:=IF.dk;obtain⟨kvF,tF,_⟩:=IF.ht;exact MG c0 _ c3 (Ar c3 x1 (by intro z;cases z)) (Ar c3 x2 (by intro z;cases z)) (Ar c3 tF (by intro z;cases z)) (Ar c3 IF.hu (by intro z;cases z))
    have dG:HG de=some (.lst (rs.map V.ref)):=by
     obtain⟨kvF,tF,_⟩:=IF.ht;exact MG _ _ IF.hd SS.dn.1 SS.dn.2 (Ar IF.hd tF (by intro z;cases z)) SS.du
    refine⟨c0,r,_,_,rfl,rfl,SqT.of cG,SqT.of er,small (by simp[Fj]),λe=>absurd e (by simp),λ_ e=>absurd e (by simp[Fj]),λ_ _ gg hg=>⟨de,_,_,rfl,rfl,Ac hg _ _ dG,Ap (by rw[If];omega),?_⟩⟩;exact come HE _ _ IE (λσ H8 h=>h) c0 hc r t us' HG MG DG er nk tin usub tok w0 w1 TG uG upre' ul' gg hg
   have IE:=ID.but SS bE DE;clear come ID tD eD bE;obtain⟨kvs,tE,ekE⟩:=IE.ht;refine⟨_,rfl,th,kvs,ks,rfl,tE,ekE,by omega,λl ns hl perm _=> ?_⟩;have ln:=IE.dk.ne' hl;have sl:=Ac (o:= .lst (ns.map V.str)) hl;have lF:=Ab (H:=HE) (a:=l) (o:= .lst (ns.map V.str));have IF:=IE.same SS sl;have tF:=sl _ _ tE;generalize upd HE l (.lst (ns.map V.str))=HF at sl lF IF tF;refine⟨_,rfl,_,rfl,th,kvs,rfl,tF,a,c,_,rfl,IF.dk,by rw[Gi ekE];omega,by rw[Gi ekE];omega,λy HG y0 y1 bG DG=> ?_⟩;rw[Gi ekE] at y1;obtain⟨j,rfl⟩:=Gk y0;have jl:j<ns.length:=by rw[perm.length_eq];omega
   have hj:=Cc jl;have hin:=perm.mem_iff.mp (mem_of_getElem? hj);generalize ns[j]=n at hj hin;refine⟨l,_,_,_,rfl,rfl,SqL.of (bG _ _ lF ln.1 ln.2),Am (by rw[getElem?_map,hj];rfl),?_⟩;have IG:=IF.but SS bG DG;have tG:=bG.dct IF.dk tF;obtain⟨vv,hvv⟩:=Qe6.mp (show (Bj kvs (Sum.inr n)).isSome=true by rw[Gq n ekE];exact decide_eq_true hin);refine⟨_,rfl,th,rfl,.inl ⟨_,.inl tG⟩,_,rfl,kvs,Sum.inr n,vv,tG,rfl,hvv,?_⟩;have tup5:∀b xs,HG b=some (.tup xs)->upd HG th (.dK (Em kvs (Sum.inr n))) b=some (.tup xs):=λb xs e=>by rw[Ai (Ar e tG (by intro z;cases z))];exact e
   have I5:HD a c th ud nm de zs (ks.filter λm=>decide (m≠n)) us rs ds H (upd HG th (.dK (Em kvs (Sum.inr n)))):=⟨IG.bt.set SS.h0t,IG.dk.upd SS.tn,by rw[Ai (Ar IG.hn tG (by intro z;cases z))];exact IG.hn,by rw[Ai (Ar IG.hu tG (by intro z;cases z))];exact IG.hu,⟨_,Ab,Nr n ekE⟩,by rw[Ai (Ar IG.hd tG (by intro z;cases z))];exact IG.hd,IG.dd.mono tup5⟩
   generalize upd HG th (.dK (Em kvs (Sum.inr n)))=H5 at I5;refine⟨_,rfl,.inl ⟨rfl,_,SqL.of I5.hd⟩,_,rfl,_,rfl,small (by simp),λr hr'=> ?_⟩;have sr:=Ac (o:= .tup (Dd.go mo' n).vs) hr';have r6:=Ab (H:=H5) (a:=r) (o:= .tup (Dd.go mo' n).vs);have I6:=I5.same SS sr;refine⟨de,_,_,rfl,rfl,I6.hd,Ap (by rw[If];omega),?_⟩;change ∃(mo:Int) (u9 u10:Option V) (ks us:List Str) (rs':List Addr) (ds':List Dd),_;have dd6:DdsAt (upd (upd H5 r (.tup (Dd.go mo' n).vs)) de (.lst (rs.map V.ref++[.ref r]))) (rs++[r]) (ds++[.go mo' n]):=Qp (H:=upd H5 r (.tup (Dd.go mo' n).vs)) I6.dd (λb xs e=>by rw[Ai (Ar e I6.hd (by intro z;cases z))];exact e) (by rw[Ai (Ar r6 I6.hd (by intro z;cases z))];exact r6);obtain⟨kv6,t6,ek6⟩:=I6.ht;have IH:HD a c th ud nm de zs (ks.filter λm=>decide (m≠n)) us (rs++[r]) (ds++[.go mo' n]) H (upd (upd H5 r (.tup (Dd.go mo' n).vs)) de (.lst (rs.map V.ref++[.ref r]))):=⟨I6.bt.set SS.h0d,I6.dk.upd SS.dn,by rw[Ai SS.dm.symm];exact I6.hn,by rw[Ai SS.du.symm];exact I6.hu,⟨kv6,by rw[Ai (Ar t6 I6.hd (by intro z;cases z))];exact t6,ek6⟩,by rw[Ab,map_append];rfl,dd6⟩
   refine⟨mo',_,_,ks.filter λm=>decide (m≠n),us,rs++[r],ds++[.go mo' n],rfl,IH,⟨P.nk.filter _,λm hm=>P.sub m (mem_filter.mp hm).1,λm=> ?_,P.pre,by rw[Qa3];have:=P.ul;show _<=ds.length+1;omega,Mf (d:= .go mo' n) P.rt ((P.mem n).mp hin) (by omega) ⟨mm0,mm1⟩ mu' (λm' t' e=>by cases e),mm0,mm1,λx hx=> ?_⟩,by rw[Qa3,dl];rfl⟩
   ·rw[C9];show _↔m∈((thr ds).filter λt=>decide (t.1≠n)).map (·.1);rw[Ho,mem_filter,mem_filter,P.mem]
   ·rcases mem_append.mp hx with q|q
    ·exact mu' x q
    ·rw[mem_singleton.mp q];exact Int.le_refl _
  ·rintro σ H8 ⟨mo,u9,u10,ks,us,rs,ds,rfl,I8,P,dl⟩;exact⟨_,rfl,de,_,rfl,.inl ⟨SqL.of I8.hd,λr hr'=>k r rs ds _ (I8.bt.trans (But.of (Ac hr'))) (I8.dk.same (Ac hr')) Ab (I8.dd.mono λb xs e=>Ac hr' _ _ e) P.rt⟩⟩
inductive Ak where
 |jo (n p q:Nat)
 |pa (n:Nat)
 |si (n p:Nat)
 |ev (n:Nat)
def Ak.vs:Ak->List V
 | .jo n p q=>[.str (Str.ofString "joined"),.int (n:Int),.int (p:Int),.int (q:Int)]
 | .pa n=>[.str (Str.ofString "parts"),.int (n:Int)]
 | .si n p=>[.str (Str.ofString "size"),.int (n:Int),.int (p:Int)]
 | .ev n=>[.str (Str.ofString "even"),.int (n:Int)]
def Ak.n:Ak->Nat
 | .jo n _ _=>n
 | .pa n=>n
 | .si n _=>n
 | .ev n=>n
def AkOk(N L:Nat):Ak->Prop
 | .jo n p q=>n<=L/\p<N/\q<N
 | .pa n=>n<=L
 | .si n p=>n<=L/\p<N
 | .ev n=>n<=L
theorem AkOk.le{N L:Nat}{k:Ak}(h:AkOk N L k):k.n<=L:=by
 cases k<;> first|exact h|exact h.1
def AksAt(H:Hp)(rs:List Addr)(ks:List Ak):Prop:=rs.length=ks.length/\∀(i:Nat) r k,rs[i]? =some r->ks[i]? =some k->H r=some (.tup k.vs)
theorem AksAt.mono{H H':Hp}{rs:List Addr}{ks:List Ak}(h:AksAt H rs ks)(f:∀r xs,H r=some (.tup xs)->H' r=some (.tup xs)):AksAt H' rs ks:=⟨h.1,λi r k a b=>f _ _ (h.2 i r k a b)⟩
theorem AksAt.get{H:Hp}{rs:List Addr}{ks:List Ak}(h:AksAt H rs ks){i:Nat}{r:Addr}(hr:rs[i]? =some r):∃k,ks[i]? =some k/\H r=some (.tup k.vs):=by
 have hi:i<ks.length:=by rw[<-h.1];exact(List.getElem?_eq_some_iff.mp hr).1
 exact⟨ks[i],Cc hi,h.2 i r _ hr (Cc hi)⟩
theorem AksAt.snoc{H:Hp}{rs:List Addr}{ks:List Ak}{r:Addr}{k:Ak}(h:AksAt H rs ks)(hr:H r=some (.tup k.vs)):AksAt H (rs++[r]) (ks++[k]):=by
 refine⟨by rw[Qa3,Qa3,h.1];rfl,λi r0 p0 e1 e2=> ?_⟩;rw[getElem?_append] at e1 e2;rw[h.1] at e1;split at e1
 ·rename_i c;rw[Qa2 c] at e2;exact h.2 i r0 p0 e1 e2
 ·rename_i c;rw[Qa1 c] at e2;have hz:i - ks.length=0:=by
   have:=(List.getElem?_eq_some_iff.mp e1).1;simp only[Qb4,Qe9] at this;omega
  rw[hz] at e1 e2;cases e1;cases e2;exact hr
def StandAt(H:Hp)(st:Addr)(S:List T4):Prop:=∃rs:List Addr,H st=some (.tup (rs.map V.ref))/\TiesAt H rs S
theorem StandAt.same{H H':Hp}{st:Addr}{S:List T4}(h:StandAt H st S)(s:Same H H'):StandAt H' st S:=let ⟨rs,a,b⟩:=h;⟨rs,s _ _ a,b.same s⟩
inductive Op(vs:List V)(H:Hp)(Q:VK)(u_3:XK):Prop
 |mk (N:Nat) (st:Addr) (S:List T4):(vs=[.int (N:Int),.ref st])->(StandAt H st S)->(InN N S)->(N<=60)->(S.length<=100)->(∀b H',Same H H'->BesAt H' b N (Bp S)->Q (.ref b) H')->Op vs H Q u_3
def Ll:Sp:=λvs H Q u_3=>Op vs H Q u_3
inductive Wi(vs:List V)(H:Hp)(Q:VK)(u_3:XK):Prop
 |mk (N:Nat) (st:Addr) (S:List T4) (p:Nat):(vs=[.int (N:Int),.ref st,.int (p:Int)])->(StandAt H st S)->(InN N S)->(N<=60)->(S.length<=100)->(p<N)->(∀a H',Same H H'->WaysAt H' a (Dq N S p)->Q (.ref a) H')->Wi vs H Q u_3
def Pg:Sp:=λvs H Q u_3=>Wi vs H Q u_3
inductive Vn(vs:List V)(H:Hp)(Q:VK)(u_3:XK):Prop
 |mk (N:Nat) (st:Addr) (S:List T4) (p:Nat):(vs=[.int (N:Int),.ref st,.int (p:Int)])->(StandAt H st S)->(InN N S)->(N<=60)->(S.length<=100)->(p<N)->(∀a H',Same H H'->H' a=some (.tup (((Az N S p).map ofNat).map V.int))->Q (.ref a) H')->Vn vs H Q u_3
def Lq:Sp:=λvs H Q u_3=>Vn vs H Q u_3
inductive N4(vs:List V)(H:Hp)(Q:VK)(u_3:XK):Prop
 |mk (N:Nat) (st:Addr) (S:List T4) (p q:Nat):(vs=[.int (N:Int),.ref st,.int (p:Int),.int (q:Int)])->(StandAt H st S)->(InN N S)->(N<=60)->(S.length<=100)->(p<N)->(∀H',Same H H'->Q (.bl (decide (q∈Az N S p))) H')->N4 vs H Q u_3
def Lf:Sp:=λvs H Q u_3=>N4 vs H Q u_3
theorem scBeside:Av ["many","stand","beside","name","one","other","weight"] ["many","stand"] (Ah Kx):=⟨rfl,rfl,rfl,by decide+kernel,rfl,by decide+kernel,by decide+kernel⟩
theorem Xl{f:Addr}{fd:FuncData}(F:Fun K "beside_of" "beside_of" Kx f fd)(T:Txt K mg C I):
  FnOk P w K mg base CX0 1 f fd ["many","stand"] Ll:=by
 refine F.ok scBeside (λvs H Q E h=> ?_) (λcdv A outer s H vs Q E hr h=> ?_)
 ·obtain⟨_,_,_,rfl,_⟩:=h;rfl
 ·obtain⟨N,st,S,rfl,⟨rs,hst,hrs⟩,hN,N60,S100,k⟩:=h;refine⟨_,Ae (Eo (i:=2) (T:=["place"]) (F:=[]) (js:=[]) scBeside.nd rfl (Or.inl rfl) (cs (osc:=Ah Kx)) rfl (Cj rfl T.range (Aa (pv 0) Ad)) (λ_ _ _ _ _=>Aj (i:=0) (show (["place"]:List Str).Nodup by decide+kernel) rfl (Or.inl rfl)) (λ_ _ _ _ _=>Ce) (λ_ _ _ _ _=>Bh Ad))
   (Ae (Cb PassesOwn.never rfl (Ds (pv 1)) (C8 rfl (An (Aj (i:=3) scBeside.nd rfl (Or.inl rfl)) (An (Aj (i:=4) scBeside.nd rfl (Or.inl rfl)) (An (Aj (i:=5) scBeside.nd rfl (Or.inl rfl)) (An (Aj (i:=6) scBeside.nd rfl (Or.inl rfl)) Bk))))) (Ae (Co (De Qc3 PySem.F.slot_list_append PySem.F.type_list_append Cq (Ao Bc (pv 2) (pv 4) (λ_ _=>rfl)) (Aa (A1 (Aa (pv 3) (Aa (pv 5) Ad))) Ad)))
   (Ag (Co (De Qc3 PySem.F.slot_list_append PySem.F.type_list_append Cq (Ao Bc (pv 2) (pv 5) (λ_ _=>rfl)) (Aa (A1 (Aa (pv 3) (Aa (pv 4) Ad))) Ad))))))
   (Ag (As (pv 2)))),?_⟩
  refine⟨_,rfl,(N:Int),rfl,by omega,by omega,λD hD=>Dl (lo:=0) (n:=(N:Int).toNat) (λj σ ys H2=>∃(u:Option V) (ls:List Addr),σ=[u]/\ys=ls.map V.ref/\Same H H2/\H2 D=some (.lst ys)/\ls.length=j/\ls.Nodup/\∀l∈ls,H l=none/\l≠D/\H2 l=some (.lst [])) ⟨none,[],rfl,rfl,Ac hD,Ab,rfl,nodup_nil,by simp⟩ (λj σ ys H2 _ ⟨_,_,_,_,_,e,_⟩=>e) ?_ ?_⟩
  ·intro j σ ys H2 hj hI5_;refine Ck λG_ hG_=> ?_;obtain⟨u,ls,rfl,rfl,s2,d2,ll,nd,hl⟩:=hI5_;have hj:j<N:=by simpa using hj
   refine hG_ ?_;refine⟨small (by simp),λp hp=> ?_⟩;have pD:p≠D:=(Al d2 hp).symm;refine⟨by rw[Ai pD.symm];exact d2,Ap (by simp;omega),_,ls++[p],rfl,by rw[map_append];rfl,A8 (s2.trans (Ac hp)) hD,Ab,by simp[ll],?_,λl hl'=> ?_⟩
   ·refine nodup_append.mpr ⟨nd,Qd3.mpr ⟨by simp,nodup_nil⟩,λx hx y hy=> ?_⟩;rw[mem_singleton.mp hy];exact Al (hl x hx).2.2 hp
   ·rcases mem_append.mp hl' with q|q
    ·obtain⟨h1,h2,h3⟩:=hl l q;exact⟨h1,h2,by rw[Ai h2,Ai (Al h3 hp)];exact h3⟩
    ·rw[mem_singleton.mp q];exact⟨none_of s2 hp,pD,by rw[Ai pD];exact Ab⟩
  intro σ ys H2 hI3_;refine Ck λG_ hG_=> ?_;obtain⟨u,ls,rfl,rfl,s2,d2,ll,nd,hl⟩:=hI3_;have ll:ls.length=N:=by simpa using ll
  have B0:Bes H H2 D ls N (Bp []):=⟨s2,d2,ll,nd,λl h=>⟨(hl l h).1,(hl l h).2.1⟩,λv l h=>⟨[],(hl l (mem_of_getElem? h)).2.2,rfl,λi r q e=>(by simp at e)⟩⟩
  refine hG_ ?_;refine⟨_,rfl,st,rfl,⟨_,SqT.of (s2 _ _ hst)⟩,Rh (K:=K) (a:=st) (xs:=rs.map V.ref) (λi σ H3=>∃(u3 u4 u5 u6:Option V),σ=[some (.int (N:Int)),some (.ref st),some (.ref D),u3,u4,u5,u6]/\Bes H H3 D ls N (Bp (S.take i))) ⟨_,_,_,_,rfl,B0⟩ (λi σ H3 _ ⟨_,_,_,_,_,B⟩=>SqT.of (B.same _ _ hst)) ?_ ?_⟩
  ·intro i x σ H3 hx hI5_ E_;refine Ck λG_ hG_=> ?_;obtain⟨u3,u4,u5,u6,rfl,B⟩:=hI5_;obtain⟨r,hr',rfl⟩:=map_some hx;obtain⟨t,ht,er⟩:=hrs.get hr';have er3:=B.same _ _ er;have tN:=hN t (mem_of_getElem? ht);have h1:t.2.1<ls.length:=by omega
   have h2:t.2.2.1<ls.length:=by omega
   have tk:S.take (i+1)=S.take i++[t]:=by rw[Qb2,ht];rfl
   have nl:∀v,(Bp (S.take i) v).length<=200:=λv=>le_trans (R6 _ _) (by rw[Qb0];omega);have l1:=Cc h1;have l2:=Cc h2;obtain⟨rs1,e1,n1,_⟩:=B.prs _ _ l1;refine hG_ ?_;refine⟨r,_,rfl,SqT.of er3,rfl,_,_,rfl,_,_,rfl,_,_,rfl,_,_,rfl,rfl,?_⟩;refine⟨_,rfl,_,rfl,D,_,_,.ref ls[t.2.1],rfl,rfl,SqL.of B.hb,Am (by rw[getElem?_map,l1];rfl),.inl ⟨rfl,_,SqL.of e1⟩,_,rfl,_,rfl,small (by simp),λp hp=> ?_⟩;refine⟨_,_,_,rfl,rfl,Ac hp _ _ e1,Ap (by rw[If];have:=nl t.2.1;omega),?_⟩;have B1:=B.app (n:=t.1) (u:=t.2.2.1) l1 hp e1;generalize upd (upd H3 p _) _ _=H4 at B1;obtain⟨rs2,e2,n2,_⟩:=B1.prs _ _ l2;refine⟨_,rfl,_,rfl,D,_,_,.ref ls[t.2.2.1],rfl,rfl,SqL.of B1.hb,Am (by rw[getElem?_map,l2];rfl),.inl ⟨rfl,_,SqL.of e2⟩,_,rfl,_,rfl,small (by simp),λp' hp'=> ?_⟩;have n3:rs2.length<=201:=by
    rw[n2];split
    ·rw[Qa3];have:=nl t.2.1;simp only[Qb4,Qe9];exact lt_of_le_of_lt (by assumption) (by decide)
    ·have:=nl t.2.2.1;exact le_trans (by assumption) (by decide)
   refine⟨_,_,_,rfl,rfl,Ac hp' _ _ e2,Ap (by rw[If];exact le_trans (by assumption) (by decide)),_,_,_,_,rfl,?_⟩;have B2:=B1.app (n:=t.1) (u:=t.2.1) l2 hp' e2;rw[nb_two,<-tk] at B2;exact B2
  ·intro σ H3 hI2_;refine Ck λG_ hG_=> ?_;obtain⟨u3,u4,u5,u6,rfl,B⟩:=hI2_;refine hG_ ?_;rw[If,hrs.1,Qb8] at B;exact⟨_,rfl,k D H3 B.same ⟨ls,B.hb,B.len,B.prs⟩⟩
theorem scWays:Av ["many","stand","place","beside","ways","waiting","here","name","there"] ["many","stand","place"] (Ah sWays):=⟨rfl,rfl,rfl,by decide+kernel,rfl,by decide+kernel,by decide+kernel⟩
theorem ok_Ways{f:Addr}{fd:FuncData}(F:Fun K "ways_from" "ways_from" sWays f fd)(T:Txt K mg C I)(GBeside:Cl P w K mg base 1 "beside_of" ["many","stand"] Ll):
  FnOk P w K mg base CX0 2 f fd ["many","stand","place"] Pg:=by
 refine F.ok scWays (λvs H Q E h=> ?_) (λcdv A outer s H vs Q E hr h=> ?_)
 ·obtain⟨_,_,_,_,rfl,_⟩:=h;rfl
 ·obtain⟨N,st,S,p,rfl,hst,hN,N60,S100,pN,k⟩:=h;refine⟨_,Ae (Aq (i:=3) scWays.nd rfl (Or.inl rfl) (A7 GBeside hr (Aa (pv 0) (Aa (pv 1) Ad))))
   (Ae (Aq (i:=4) scWays.nd rfl (Or.inl rfl) (Au Tx (Bh (Aa Uc Ad)) (pv 0)))
   (Ae (Da (A1 Ad) (Mm (pv 4) (pv 2) Fw))
   (Ae (Aq (i:=5) scWays.nd rfl (Or.inl rfl) (Bh (Aa (pv 2) Ad)))
   (Ae (Qz PassesOwn.never (Lu (pv 5) (λ_=>rfl)) (Ae (Aq (i:=6) scWays.nd rfl (Or.inl rfl) (De Qc3 PySem.F.slot_list_pop PySem.F.type_list_pop mt_popAt (pv 5) (Aa Af Ad)))
   (Ag (Cb PassesOwn.never rfl (Cd (Ao Bc (pv 3) (pv 6) (λ_ _=>rfl))) (C8 rfl (An (Aj (i:=7) scWays.nd rfl (Or.inl rfl)) (An (Aj (i:=8) scWays.nd rfl (Or.inl rfl)) Bk))) (Ag (Br (Ax op_isN (Ao Bc (pv 4) (pv 8) (λ_ _=>rfl)) Uc (Aw _)) (Ae (Da (Au Ib (Ao Bc (pv 4) (pv 6) (λ_ _=>rfl)) (A1 (Aa (pv 7) Ad))) (Mm (pv 4) (pv 8) Fw))
   (Ag (Co (De Qc3 PySem.F.slot_list_append PySem.F.type_list_append Cq (pv 5) (Aa (pv 8) Ad))))) Bd))))))
   (Ag (As (pv 4))))))),?_⟩
  refine⟨_,rfl,_,rfl,N,st,S,rfl,hst,hN,N60,S100,λb H1 s1 hb=> ?_⟩;refine⟨small (by simp),λq hq=>⟨_,rfl,q,_,_,rfl,rfl,Ab,by omega,by omega,small (by simp only[Qb4,Qe9];omega),λws hws=> ?_⟩⟩;have fl:(replicate (N:Int).toNat [V.non]).flatten=replicate N V.non:=by rw[List.flatten_replicate_singleton];rfl
  rw[fl];have s2:=(Ac (H:=H1) (o:= .lst [.non]) hq).trans (Ac (o:= .lst (replicate N V.non)) hws);have nw:H1 ws=none:=none_of (Ac (H:=H1) (o:= .lst [.non]) hq) hws;have e2:=Ab (H:=upd H1 q (.lst [.non])) (a:=ws) (o:= .lst (replicate N V.non));generalize upd (upd H1 q (.lst [.non])) ws (.lst (replicate N V.non))=H2 at s2 e2;have W2:WaysAt H2 ws (replicate N none):=⟨_,e2,by simp,λi x o hx ho=>by
   rw[getElem?_replicate] at hx ho;split at hx
   ·rename_i hi;rw[Qa2 hi] at ho;cases hx;cases ho;rfl
   ·cases hx⟩
  refine⟨small (by simp),λe he=> ?_⟩;have s3:=Ac (o:= .tup []) he;have W3:=W2.same s3;have e3:=s3 _ _ e2;have t3:=Ab (H:=H2) (a:=e) (o:= .tup []);generalize upd H2 e (.tup [])=H3 at s3 W3 e3 t3;have W4:WaysAt (upd H3 ws (.lst ((replicate N V.non).set p (.ref e)))) ws (Bz N p).1:=WaysAt.set (w:=[]) W3 e3 t3;have s4:Same H1 (upd H3 ws (.lst ((replicate N V.non).set p (.ref e)))):=A8 (s2.trans s3) nw;refine⟨_,rfl,_,rfl,ws,_,_,p,rfl,rfl,e3,(by have h:ixN (replicate N V.non).length (p:Int)=some p:=Kq (by simpa using pN);exact h),?_⟩;generalize upd H3 ws _=H4 at W4 s4;refine⟨_,rfl,small (by simp),λwt hwt=> ?_⟩;have s5:=s4.trans (Ac (o:= .lst [.int (p:Int)]) hwt);have nt:H1 wt=none:=none_of s4 hwt;have W5:=W4.same (Ac (o:= .lst [.int (p:Int)]) hwt);have t5:=Ab (H:=H4) (a:=wt) (o:= .lst [.int (p:Int)]);have wwt:ws≠wt:=by obtain⟨xs,hx,_⟩:=W4;exact Al hx hwt
  generalize upd H4 wt (.lst [.int (p:Int)])=H5 at s5 W5 t5;dsimp only[Qs,Xc];refine Wy (λm σ H6=>∃(i:Nat) (u6 u7 u8:Option V) (wl:Ws) (tl:List Nat),σ=[some (.int (N:Int)),some (.ref st),some (.int (p:Int)),some (.ref b),some (.ref ws),some (.ref wt),u6,u7,u8]/\Same H1 H6/\H6 wt=some (.lst ((tl.map ofNat).map V.int))/\WaysAt H6 ws wl/\iter S i (Bz N p)=(wl,tl)/\Nk S N p (wl,tl)/\m=C6 wl+tl.length/\i+m<=64/\tl.length<=64/\∀v x,Wk.Vis wl v x->x.length<=i)
   (m0:=C6 (Bz N p).1+1) ⟨0,_,_,_,(Bz N p).1,[p],rfl,s5,t5,W5,rfl,binv0 pN,rfl,?_,by simp,λv x q=>by rw[N0 pN q];simp⟩ ?_ ?_
  ·have:C6 (Bz N p).1<=(Bz N p).1.length:=List.countP_le_length;simp only[Bz,length_set,List.length_replicate] at this ⊢;omega
  ·intro m σ H6 hI3_ E6 hE6 _;refine Ck λG_ hG_=> ?_;obtain⟨i,u6,u7,u8,wl,tl,rfl,s6,t6,W6,it6,I6,hm,hi,tl6,sh6⟩:=hI3_;refine hG_ ?_;refine⟨_,rfl,_,.inl ⟨_,SqL.of t6,rfl⟩,?_⟩;cases tl with
   |nil=>
    refine C4 ?_;rw[<-Kk it6 (by omega)] at W6;exact⟨_,rfl,k ws H6 (s1.trans s6) W6⟩
   |cons h rest=>
    refine Ew ?_;obtain⟨w0,hv0,J⟩:=O7 I6;have hh:h<N:=by have:=(List.getElem?_eq_some_iff.mp hv0).1;rw[<-I6.len];exact this
    refine⟨_,rfl,.inl ⟨rfl,_,SqL.of t6⟩,wt,_,0,0,.int (h:Int),rfl,rfl,t6,by decide,by decide,by simp[seqIndex?],rfl,?_⟩;have W7:=W6.keep (zs:=(rest.map ofNat).map V.int) t6 wwt;have s7:Same H1 (upd H6 wt (.lst ((rest.map ofNat).map V.int))):=A8 s6 nt;have t7:=Ab (H:=H6) (a:=wt) (o:= .lst ((rest.map ofNat).map V.int));have eH:upd H6 wt (.lst (List.eraseIdx (map V.int (map ofNat (h::rest))) 0))=upd H6 wt (.lst ((rest.map ofNat).map V.int)):=rfl;rw[eH];generalize upd H6 wt (.lst ((rest.map ofNat).map V.int))=H7 at W7 s7 t7;obtain⟨ls,hls,lls,hpr⟩:=hb.same s7;have hl:=Cc (l:=ls) (i:=h) (by omega);obtain⟨rs,er,lr,hr3⟩:=hpr h _ hl;have w0len:w0.length<=64:=by have:=sh6 h w0 hv0;omega
    refine⟨_,rfl,_,rfl,b,_,_,.ref ls[h],rfl,rfl,SqL.of hls,Am (by rw[getElem?_map,hl];rfl),_,rfl,⟨_,SqL.of er⟩,?_⟩;have key:∀H8,Same H1 H8->H8 ls[h]=some (.lst (rs.map V.ref))/\∀(i:Nat) r q,rs[i]? =some r->(Bp S h)[i]? =some q->H8 r=some (.tup [.str q.1,.int (q.2:Int)]):=by
     intro H8 s8;obtain⟨ls',hls',_,hpr'⟩:=hb;have e1:ls'=ls:=by
      have:=s7 _ _ hls';rw[hls] at this;injection this with this;injection this with this;exact(Sg this).symm
     subst e1;obtain⟨rs',er',lr',hr'⟩:=hpr' h _ hl;have e2:rs'=rs:=by
      have:=s7 _ _ er';rw[er] at this;injection this with this;injection this with this;exact(Sg this).symm
     subst e2;exact⟨s8 _ _ er',λi r q e f=>s8 _ _ (hr' i r q e f)⟩
    refine Xg (K:=K) (a:=ls[h]) (xs:=rs.map V.ref) (λj σ H8=>∃(u7 u8:Option V),σ=[some (.int (N:Int)),some (.ref st),some (.int (p:Int)),some (.ref b),some (.ref ws),some (.ref wt),some (.int (h:Int)),u7,u8]/\Same H1 H8/\H8 wt=some (.lst (((Bv w0 ((Bp S h).take j) (wl,rest)).2.map ofNat).map V.int))/\WaysAt H8 ws (Bv w0 ((Bp S h).take j) (wl,rest)).1)
     ⟨_,_,rfl,s7,t7,W7⟩ (λj σ H8 _ ⟨_,_,_,s8,_⟩=>SqL.of (key H8 s8).1) ?_ ?_
    ·intro j x σ H8 hx hI5_ E8 hE8 _;refine Ck λG_ hG_=> ?_;obtain⟨u7',u8',rfl,s8,t8,W8⟩:=hI5_;obtain⟨r,hr',rfl⟩:=map_some hx;have hj:j<(Bp S h).length:=by rw[<-lr];exact(List.getElem?_eq_some_iff.mp hr').1
     have hq:=Cc hj;have er8:=(key H8 s8).2 j r _ hr' hq;have tk:(Bp S h).take (j+1)=(Bp S h).take j++[(Bp S h)[j]]:=by rw[Qb2,hq];rfl
     have qN:((Bp S h)[j]).2<N:=Rm hN (getElem_mem hj);have jl:j<201:=by have:=R6 S h;omega
     obtain⟨vl1,vl2⟩:=Jy w0 ((Bp S h).take j) (wl,rest);have vh:=Jv w0 ((Bp S h).take j) (wl,rest) hv0;refine hG_ ?_;rw[tk,Hu] at hE8;generalize (Bp S h)[j]=q at er8 qN hE8;generalize Bv w0 ((Bp S h).take j) (wl,rest)=st' at *;obtain⟨wl',tl'⟩:=st';dsimp only at *;have qw:q.2<wl'.length:=by rw[vl1];show _<wl.length;rw[I6.len];exact qN
     refine⟨r,_,rfl,SqT.of er8,rfl,_,_,rfl,_,_,rfl,rfl,?_⟩;obtain⟨xs,x,hxs,hx',lxs,hxo⟩:=W8.get (Cc qw);refine⟨_,rfl,_,rfl,ws,_,_,x,rfl,rfl,SqL.of hxs,Am hx',rfl,_,rfl,?_⟩;cases ho:wl'[q.2] with
     |some z=>
      rw[ho] at hxo;obtain⟨rz,rfl,_⟩:=hxo;rw[vis1_no (by dsimp only;rw[Cc qw,ho];simp)] at hE8;refine B7 (λg=>absurd g (by simp)) λ_=> ?_;exact hE8 _ _ ⟨_,_,rfl,s8,t8,W8⟩
     |none=>
      rw[ho] at hxo;have hxo:x= .non:=hxo;subst hxo;rw[Zx (by dsimp only;rw[Cc qw,ho])] at hE8;refine B7 (λ_=> ?_) λg=>absurd (by simp) g;obtain⟨xs2,x2,hxs2,hx2,_,hxo2⟩:=W8.get vh;obtain⟨r0,rfl,er0⟩:=hxo2;rw[hxs] at hxs2;injection hxs2 with hxs2;injection hxs2 with hxs2;subst hxs2;have tl9:((tl'.map ofNat).map V.int).length<=1000:=by
       simp only[If,Qb0,Qb4] at vl2 tl6 ⊢;omega
      refine⟨_,rfl,_,rfl,ws,_,_,.ref r0,rfl,rfl,SqL.of hxs,Am hx2,_,rfl,small (by simp),λp1 hp1=> ?_⟩;have s9:=Ac (o:= .tup [.str q.1]) hp1;have p9:=Ab (H:=H8) (a:=p1) (o:= .tup [.str q.1]);have w9:w0.length<=100:=by
       have:=(J.ht h w0 J.hv);have:=w0len;exact le_trans (by assumption) (by decide)
      generalize upd H8 p1 (.tup [.str q.1])=H9 at s9 p9;refine⟨r0,p1,_,_,rfl,rfl,SqT.of (s9 _ _ er0),SqT.of p9,small (by simp;exact le_trans (by assumption) (by decide)),λe=> ?_,λ_ e=>absurd e (by simp),λ_ _ p2 hp2=> ?_⟩
      ·have e0:w0=[]:=by simpa using e
       have e9:H9 p1=some (.tup ((w0++[q.1]).map V.str)):=by rw[e0];exact p9
       have hxs9:=s9 _ _ hxs;have W9:=(W8.same s9).set (u:=q.2) hxs9 e9;have t9:=s9 _ _ t8;refine⟨_,rfl,_,rfl,ws,_,_,q.2,rfl,rfl,hxs9,Kq (by omega),?_⟩;have s10:Same H1 (upd H9 ws (.lst (xs.set q.2 (.ref p1)))):=A8 (s8.trans s9) nw;have t10:upd H9 ws (.lst (xs.set q.2 (.ref p1))) wt=some (.lst ((tl'.map ofNat).map V.int)):=by rw[Ai wwt.symm];exact t9
       generalize upd H9 ws (.lst (xs.set q.2 (.ref p1)))=H10 at W9 s10 t10;refine⟨_,rfl,.inl ⟨rfl,_,SqL.of t10⟩,_,rfl,wt,_,_,rfl,rfl,t10,Ap tl9,hE8 _ _ ⟨_,_,rfl,A8 s10 nt,?_,W9.keep t10 wwt⟩⟩;rw[Ab,map_append,map_append];rfl
      ·have e9:upd H9 p2 (.tup (w0.map V.str++[.str q.1])) p2=some (.tup ((w0++[q.1]).map V.str)):=by rw[Ab,map_append];rfl
       have s9:=s9.trans (Ac (o:= .tup (w0.map V.str++[.str q.1])) hp2);generalize upd H9 p2 (.tup (w0.map V.str++[.str q.1]))=H9 at s9 e9;have hxs9:=s9 _ _ hxs;have W9:=(W8.same s9).set (u:=q.2) hxs9 e9;have t9:=s9 _ _ t8;refine⟨_,rfl,_,rfl,ws,_,_,q.2,rfl,rfl,hxs9,Kq (by omega),?_⟩;have s10:Same H1 (upd H9 ws (.lst (xs.set q.2 (.ref p2)))):=A8 (s8.trans s9) nw;have t10:upd H9 ws (.lst (xs.set q.2 (.ref p2))) wt=some (.lst ((tl'.map ofNat).map V.int)):=by rw[Ai wwt.symm];exact t9
       generalize upd H9 ws (.lst (xs.set q.2 (.ref p2)))=H10 at W9 s10 t10;refine⟨_,rfl,.inl ⟨rfl,_,SqL.of t10⟩,_,rfl,wt,_,_,rfl,rfl,t10,Ap tl9,hE8 _ _ ⟨_,_,rfl,A8 s10 nt,?_,W9.keep t10 wwt⟩⟩;rw[Ab,map_append,map_append];rfl
    ·intro σ H8 hI2_;refine Ck λG_ hG_=> ?_;obtain⟨u7',u8',rfl,s8,t8,W8⟩:=hI2_;refine hG_ ?_;rw[If,lr,Qb8] at t8 W8;have eb:Ez S (wl,h::rest)=Bv w0 (Bp S h) (wl,rest):=by
      show Bv ((wl[h]?.join).getD []) (Bp S h) (wl,rest)=_;unfold Wk.Vis at hv0;rw[hv0];rfl
     obtain⟨I8,m8⟩:=M0 hN I6;have sh8:=J9 hN I6 sh6;have it8:iter S (i+1) (Bz N p)=Bv w0 (Bp S h) (wl,rest):=by rw[Ny,it6,eb]
     rw[eb] at I8 m8 sh8;generalize Bv w0 (Bp S h) (wl,rest)=st' at *;obtain⟨wl',tl'⟩:=st';dsimp only at *;refine hE6 (C6 wl'+tl'.length) _ _ (by omega) ⟨i+1,_,_,_,wl',tl',rfl,s8,t8,W8,it8,I8,rfl,by omega,by omega,sh8⟩
  ·intro σ H6 Q Q' f hI5_;refine Ck λG_ hG_=> ?_;obtain⟨v,e,b',h',q⟩:=hI5_;refine hG_ ?_;exact⟨v,e,b',h',f _ _ q⟩
theorem scPart:Av ["many","stand","place","ways"] ["many","stand","place"] (Ah Vj):=⟨rfl,rfl,rfl,by decide+kernel,rfl,by decide+kernel,by decide+kernel⟩
theorem ok_Part{f:Addr}{fd:FuncData}(F:Fun K "part_of" "part_of" Vj f fd)(T:Txt K mg C I)(GWays:Cl P w K mg base 2 "ways_from" ["many","stand","place"] Pg):
  FnOk P w K mg base CX0 3 f fd ["many","stand","place"] Lq:=by
 refine F.ok scPart (λvs H Q E h=> ?_) (λcdv A outer s H vs Q E hr h=> ?_)
 ·obtain⟨_,_,_,_,rfl,_⟩:=h;rfl
 ·obtain⟨N,st,S,p,rfl,hst,hN,N60,S100,pN,k⟩:=h;refine⟨_,Ae (Aq (i:=3) scPart.nd rfl (Or.inr rfl) (A7 GWays hr (Aa (pv 0) (Aa (pv 1) (Aa (pv 2) Ad)))))
   (Ag (As (Bb Ba (by rfl) T.tuple (by decide+kernel) (Aa (Cg (T:=["there"]) (F:=["ways"]) (js:=[3]) (cs (osc:=Ah Vj)) rfl (Cj rfl T.range (Aa (pv 0) Ad)) (λ_ _ _ _ _=>Aj (i:=0) (show (["there","ways"]:List Str).Nodup by decide+kernel) rfl (Or.inl rfl)) (λ_ _ _ _ _=>Ep (Ax op_notN (Ao (r:=rIxL K) Bc (pv 1) (pv 0) (λ_ _=>rfl)) Uc (Aw _))) (λ_ _ _ _ _=>pv 0)) Ad)))),?_⟩
  refine⟨_,rfl,_,rfl,_,rfl,N,st,S,p,rfl,hst,hN,N60,S100,pN,λa H1 s1 W1=> ?_⟩;have wl:=Qv hN pN N60;refine⟨_,rfl,(N:Int),rfl,by omega,by omega,λD hD=>Dl (lo:=0) (n:=(N:Int).toNat) (λj σ ys H2=>∃(u:Option V),σ=[u,some (.ref a)]/\ys=((((List.range j).filter λv=>((Dq N S p)[v]?.join).isSome).map ofNat).map V.int)/\H2=upd H1 D (.lst ys)) ⟨none,rfl,rfl,rfl⟩ (λj σ ys H2 _ ⟨_,_,_,e⟩=>by rw[e];exact Ab) ?_ ?_⟩
  ·intro j σ ys H2 hj hI5_;refine Ck λG_ hG_=> ?_;obtain⟨u,rfl,rfl,rfl⟩:=hI5_;have hj:j<N:=by simpa using hj
   have hjw:j<(Dq N S p).length:=by omega
   obtain⟨xs,x,hxs,hx,lx,hxo⟩:=(W1.same (Ac (o:= .lst ((((List.range j).filter λv=>((Dq N S p)[v]?.join).isSome).map ofNat).map V.int)) hD)).get (Cc hjw);refine hG_ ?_;refine⟨_,rfl,_,rfl,a,_,_,x,rfl,rfl,SqL.of hxs,by rw[Int.zero_add];exact Am hx,rfl,_,rfl,?_⟩;have lf:((List.range j).filter λv=>((Dq N S p)[v]?.join).isSome).length<=60:=le_trans (Qd1 _ _) (by rw[Qe0];omega);cases ho:(Dq N S p)[j] with
   |none=>
    rw[ho] at hxo;have hxo:x= .non:=hxo;subst hxo;refine B7 (λg=>absurd g (by simp)) λ_=>⟨_,rfl,?_,?_⟩
    ·rw[range_succ,filter_append];simp[Cc hjw,ho]
    ·rfl
   |some z=>
    rw[ho] at hxo;obtain⟨r,rfl,_⟩:=hxo;refine B7 (λ_=>⟨_,rfl,Ab,Ap (by simp only[If];exact le_trans (by assumption) (by decide)),_,rfl,?_,by rw[O1]⟩) λg=>absurd (by simp) g;rw[range_succ,filter_append,map_append,map_append];simp[Cc hjw,ho]
  ·intro σ ys H2 hI3_;refine Ck λG_ hG_=> ?_;obtain⟨u,rfl,rfl,rfl⟩:=hI3_;refine hG_ ?_;exact⟨D,_,rfl,.inl ⟨SqL.of Ab,λl hl=>k l _ (s1.trans ((Ac hD).trans (Ac hl))) Ab⟩⟩
theorem scJoined:Av ["many","stand","one","other"] ["many","stand","one","other"] (Ah O9):=⟨rfl,rfl,rfl,by decide+kernel,rfl,by decide+kernel,by decide+kernel⟩
theorem Xv{f:Addr}{fd:FuncData}(F:Fun K "are_joined" "are_joined" O9 f fd)(T:Txt K mg C I)(GPart:Cl P w K mg base 3 "part_of" ["many","stand","place"] Lq):
  FnOk P w K mg base CX0 4 f fd ["many","stand","one","other"] Lf:=by
 refine F.ok scJoined (λvs H Q E h=> ?_) (λcdv A outer s H vs Q E hr h=> ?_)
 ·obtain⟨_,_,_,_,_,rfl,_⟩:=h;rfl
 ·obtain⟨N,st,S,p,q,rfl,hst,hN,N60,S100,pN,k⟩:=h;refine⟨_,Ag (As (Cr X3 (pv 3) (A7 GPart hr (Aa (pv 0) (Aa (pv 1) (Aa (pv 2) Ad)))) (by rfl))),?_⟩;refine⟨_,rfl,_,rfl,_,rfl,_,rfl,N,st,S,p,rfl,hst,hN,N60,S100,pN,λa H1 s1 e1=>⟨a,_,rfl,.inr (SqT.of e1),rfl,Wq _,?_⟩⟩;have e:inV (.int (q:Int)) (((Az N S p).map ofNat).map V.int)=decide (q∈Az N S p):=by
   rw[inV_ints,Bool.eq_iff_iff,Qa4,Qa4,mem_map];constructor
   ·rintro⟨x,hx,e⟩;have:x=q:=by have:(x:Int)=q:=e;clear S100 pN e;omega
    rw[<-this];exact hx
   ·intro h;exact⟨q,h,rfl⟩
  show Q (.bl (inV (.int (q:Int)) (((Az N S p).map ofNat).map V.int))) H1;rw[e];exact k _ s1
def nV(ps:List Nat):List V:=(ps.map ofNat).map V.int
theorem nV_at{ps:List Nat}{k v:Nat}(h:ps[k]? =some v):atI (nV ps) (k:Int)=some (.int (v:Int)):=Am (by unfold nV;rw[getElem?_map,getElem?_map,h];rfl)
def PtsAt(H:Hp)(as:List Addr)(N:Nat)(S:List T4)(ls:List Nat):Prop:=as.length=ls.length/\∀(i:Nat) r p,as[i]? =some r->ls[i]? =some p->H r=some (.tup (nV (Az N S p)))
inductive Sa(vs:List V)(H:Hp)(Q:VK)(u_3:XK):Prop
 |mk (N:Nat) (st:Addr) (S:List T4):(vs=[.int (N:Int),.ref st])->(StandAt H st S)->(InN N S)->(N<=60)->(S.length<=100)->(∀a as H',Same H H'->H' a=some (.tup (as.map V.ref))->PtsAt H' as N S (lsF N S)->Q (.ref a) H')->Sa vs H Q u_3
def Km:Sp:=λvs H Q u_3=>Sa vs H Q u_3
theorem Ry{H:Hp}{as:List Addr}{N p:Nat}{S:List T4}{ls:List Nat}{r:Addr}(h:PtsAt H as N S ls)(hr:H r=some (.tup (nV (Az N S p)))):PtsAt H (as++[r]) N S (ls++[p]):=by
 refine⟨by rw[Qa3,Qa3,h.1];rfl,λi r0 p0 e1 e2=> ?_⟩;rw[getElem?_append] at e1 e2;rw[h.1] at e1;split at e1
 ·rename_i z;rw[Qa2 z] at e2;exact h.2 i r0 p0 e1 e2
 ·rename_i z;rw[Qa1 z] at e2;have hz:i - ls.length=0:=by
   have:=(List.getElem?_eq_some_iff.mp e1).1;simp only[Qb4,Qe9] at this;omega
  rw[hz] at e1 e2;cases e1;cases e2;exact hr
theorem PtsAt.mono{H H':Hp}{as:List Addr}{N:Nat}{S:List T4}{ls:List Nat}(h:PtsAt H as N S ls)(f:∀r zs,H r=some (.tup zs)->H' r=some (.tup zs)):PtsAt H' as N S ls:=⟨h.1,λi r p a b=>f _ _ (h.2 i r p a b)⟩
theorem scPtsOf:Av ["many","stand","parts"] ["many","stand"] (Ah Mq):=⟨rfl,rfl,rfl,by decide+kernel,rfl,by decide+kernel,by decide+kernel⟩
theorem ok_PtsOf{f:Addr}{fd:FuncData}(F:Fun K "parts_of" "parts_of" Mq f fd)(T:Txt K mg C I)(GPart:Cl P w K mg base 3 "part_of" ["many","stand","place"] Lq):
  FnOk P w K mg base CX0 4 f fd ["many","stand"] Km:=by
 refine F.ok scPtsOf (λvs H Q E h=> ?_) (λcdv A outer s H vs Q E hr h=> ?_)
 ·obtain⟨_,_,_,rfl,_⟩:=h;rfl
 ·obtain⟨N,st,S,rfl,hst,hN,N60,S100,k⟩:=h;refine⟨_,Ae (Eo (i:=2) (T:=["place"]) (F:=["many","stand"]) (js:=[0,1]) scPtsOf.nd rfl (Or.inl rfl) (cs (osc:=Ah Mq)) rfl (Cj rfl T.range (Aa (pv 0) Ad)) (λ_ _ _ _ _=>Aj (i:=0) (show (["place","many","stand"]:List Str).Nodup by decide+kernel) rfl (Or.inl rfl)) (λ_ _ _ _ _=>Ce) (λ_ _ _ _ _=>A7 GPart hr (Aa (pv 1) (Aa (pv 2) (Aa (pv 0) Ad)))))
   (Ag (As (Bb Ba (by rfl) T.tuple (by decide+kernel) (Aa (Cg (T:=["place","part"]) (F:=[]) (js:=[]) (cs (osc:=Ah Mq)) rfl (pi_enumL rfl T.enumerate (Aa (pv 2) Ad)) (λ_ _ _ _ _=>Fk K 2 rfl rfl (An (Aj (i:=0) (show (["place","part"]:List Str).Nodup by decide+kernel) rfl (Or.inl rfl)) (An (Aj (i:=1) (show (["place","part"]:List Str).Nodup by decide+kernel) rfl (Or.inl rfl)) Bk))) (λ_ _ _ _ _=>Ep (Ax Bq (Ao (r:=Hr K) At (pv 1) Af (λ_ _=>rfl)) (pv 0) (Aw _))) (λ_ _ _ _ _=>pv 1)) Ad)))),?_⟩
  refine⟨_,rfl,(N:Int),rfl,by omega,by omega,λD hD=>Dl (lo:=0) (n:=(N:Int).toNat) (λj σ ys H2=>∃(u:Option V) (ls:List Addr),σ=[u,some (.int (N:Int)),some (.ref st)]/\ys=ls.map V.ref/\Same H H2/\H2 D=some (.lst ys)/\PtsAt H2 ls N S (List.range j)) ⟨none,[],rfl,rfl,Ac hD,Ab,rfl,λi r p e=>by simp at e⟩ (λj σ ys H2 _ ⟨_,_,_,_,_,e,_⟩=>e) ?_ ?_⟩
  ·intro j σ ys H2 hj hI5_;refine Ck λG_ hG_=> ?_;obtain⟨u,ls,rfl,rfl,s2,d2,p2⟩:=hI5_;have hj:j<N:=by simpa using hj
   have ll:ls.length=j:=by rw[p2.1,Qe0]
   refine hG_ ?_;refine⟨_,rfl,_,rfl,_,rfl,N,st,S,j,by rw[Int.zero_add];rfl,hst.same s2,hN,N60,S100,hj,λr H3 s3 e3=> ?_⟩;have d3:=s3 _ _ d2;refine⟨d3,Ap (by rw[If];omega),_,ls++[r],rfl,by rw[map_append];rfl,A8 (s2.trans s3) hD,Ab,?_⟩;rw[range_succ];have kp:∀(r:Addr) (zs:List V) (o:HO),H3 r=some (.tup zs)->upd H3 D o r=some (.tup zs):=λr zs o e=>by rw[Ai (Ar e d3 (by intro z;cases z))];exact e
   exact Ry ((p2.mono λr zs e=>s3 _ _ e).mono λr zs e=>kp r zs _ e) (kp _ _ _ e3)
  intro σ ys H2 hI3_;refine Ck λG_ hG_=> ?_;obtain⟨u,ls,rfl,rfl,s2,d2,p2⟩:=hI3_;have en:(N:Int).toNat=N:=by omega
  refine hG_ ?_;rw[en] at p2;have ll:ls.length=N:=by rw[p2.1,Qe0]
  refine⟨_,rfl,D,_,rfl,SqL.of d2,λE hE=>Xa (K:=K) (a:=D) (xs:=ls.map V.ref) (λj σ ys H5=>∃(u v:Option V) (qs:List Addr),σ=[u,v]/\Same H2 H5/\H5 E=some (.lst ys)/\ys=qs.map V.ref/\PtsAt H5 qs N S ((List.range j).filter λp=>decide ((Az N S p)[0]? =some p))) ⟨none,none,[],rfl,Ac hE,Ab,rfl,rfl,λi r p e=>by simp at e⟩ (λj σ ys H5 _ ⟨_,_,_,_,s5,e,_⟩=>⟨SqL.of (s5 _ _ d2),e⟩) ?_ ?_⟩
  ·intro j x σ ys H5 T hx hI7_ hT;refine Ck λG_ hG_=> ?_;obtain⟨u,v,qs,rfl,s5,e5,rfl,p5⟩:=hI7_;obtain⟨r,er,rfl⟩:=map_some hx;have hj:j<N:=by rw[<-ll];exact(List.getElem?_eq_some_iff.mp er).1
   have s6:=Ac (o:= .tup [.int (j:Int),.ref r]) hT;have T6:=Ab (H:=H5) (a:=T) (o:= .tup [.int (j:Int),.ref r]);have e6:=s6 _ _ e5;have p6:=p5.mono λr zs e=>s6 _ _ e;refine hG_ ?_;generalize upd H5 T (.tup [.int (j:Int),.ref r])=H6 at s6 T6 e6 p6;have S6:=s5.trans s6;have r6:=S6 _ _ (p2.2 j r j er (getElem?_range hj));refine⟨T,_,rfl,SqT.of T6,rfl,_,_,rfl,_,_,rfl,rfl,?_⟩;have h0:0<(Az N S j).length:=Qg3 (E1 hN hj N60);have hg:=Cc h0;generalize (Az N S j)[0]=q at hg;refine⟨_,rfl,r,_,0,_,rfl,rfl,SqT.of r6,nV_at (k:=0) hg,_,rfl,rfl,_,rfl,?_⟩;have ql:qs.length<=100:=by
    rw[p5.1];refine le_trans (Qd1 _ _) ?_;rw[Qe0];omega
   by_cases g:q=j
   ·rw[show decide (V.int (q:Int)=V.int (j:Int))=true from decide_eq_true (by rw[g])];have ef:(List.range (j+1)).filter (λp=>decide ((Az N S p)[0]? =some p))=(List.range j).filter (λp=>decide ((Az N S p)[0]? =some p))++[j]:=by
     rw[range_succ,filter_append,List.filter_cons_of_pos (by rw[Qa4,hg,g]),filter_nil]
    have kp:∀(r:Addr) (zs:List V) (o:HO),H6 r=some (.tup zs)->upd H6 E o r=some (.tup zs):=λr zs o e=>by rw[Ai (Ar e e6 (by intro z;cases z))];exact e
    refine Ew ⟨_,rfl,e6,Ap (by rw[If];exact le_trans (by assumption) (by decide)),_,_,qs++[r],rfl,A8 S6 hE,Ab,by rw[map_append];rfl,?_⟩;rw[ef];exact Ry (p6.mono λr zs e=>kp r zs _ e) (kp _ _ _ r6)
   ·rw[show decide (V.int (q:Int)=V.int (j:Int))=false from decide_eq_false (λe=>g (by injection e with e;omega))];have ef:(List.range (j+1)).filter (λp=>decide ((Az N S p)[0]? =some p))=(List.range j).filter (λp=>decide ((Az N S p)[0]? =some p)):=by
     rw[range_succ,filter_append,List.filter_cons_of_neg (by rw[Qa4,hg];intro z;exact g (Option.some.inj z)),filter_nil,Qc9]
    refine C4 ⟨_,_,qs,rfl,S6,e6,rfl,?_⟩;rw[ef];exact p6
  ·intro σ ys H5 hI3_;refine Ck λG_ hG_=> ?_;obtain⟨u,v,qs,rfl,s5,e5,rfl,p5⟩:=hI3_;refine hG_ ?_;rw[If,ll] at p5;refine⟨E,_,rfl,.inl ⟨SqL.of e5,λl hl=> ?_⟩⟩;exact k l qs _ ((s2.trans s5).trans (Ac hl)) Ab (p5.mono λr zs e=>Ac hl _ _ e)
def FLAt(H:Hp)(l:Addr)(N:Nat)(S:List T4):Prop:=∃as:List Addr,H l=some (.lst (as.map V.ref))/\as.length=N/\∀(v:Nat) a,as[v]? =some a->∃ws,H a=some (.tup (ws.map V.str))/\FL N S v ws
inductive Nw(vs:List V)(H:Hp)(Q:VK)(u_3:XK):Prop
 |mk (N:Nat) (st:Addr) (S:List T4):(vs=[.int (N:Int),.ref st])->(StandAt H st S)->(InN N S)->(N<=60)->(S.length<=100)->(∀l H',Same H H'->FLAt H' l N S->Q (.ref l) H')->Nw vs H Q u_3
def Mn:Sp:=λvs H Q u_3=>Nw vs H Q u_3
theorem Zi{t0:Addr}(N:Nat):(replicate N [V.ref t0]).flatten=(replicate N t0).map V.ref:=by
 induction N with
 |zero=>rfl
 |succ N ih=>rw[replicate_succ,flatten_cons,ih,replicate_succ];rfl
theorem scWLeast:Av ["many","stand","told","part","ways","place"] ["many","stand"] (Ah P7):=⟨rfl,rfl,rfl,by decide+kernel,rfl,by decide+kernel,by decide+kernel⟩
theorem Xx{f:Addr}{fd:FuncData}(F:Fun K "ways_from_least" "ways_from_least" P7 f fd)(T:Txt K mg C I)(GPtsOf:Cl P w K mg base 4 "parts_of" ["many","stand"] Km)(GWays:Cl P w K mg base 4 "ways_from" ["many","stand","place"] Pg):
  FnOk P w K mg base CX0 5 f fd ["many","stand"] Mn:=by
 refine F.ok scWLeast (λvs H Q E h=> ?_) (λcdv A outer s H vs Q E hr h=> ?_)
 ·obtain⟨_,_,_,rfl,_⟩:=h;rfl
 ·obtain⟨N,st,S,rfl,hst,hN,N60,S100,k⟩:=h;refine⟨_,Ae (Aq (i:=2) scWLeast.nd rfl (Or.inl rfl) (Au Tx (Bh (Aa (A1 Ad) Ad)) (pv 0)))
   (Ae (Cb PassesOwn.never rfl (Ds (A7 GPtsOf hr (Aa (pv 0) (Aa (pv 1) Ad)))) (Aj (i:=3) scWLeast.nd rfl (Or.inl rfl)) (Ae (Aq (i:=4) scWLeast.nd rfl (Or.inl rfl) (A7 GWays hr (Aa (pv 0) (Aa (pv 1) (Aa (Ao At (pv 3) Af (λ_ _=>rfl)) Ad)))))
   (Ag (Cb PassesOwn.never rfl (Ds (pv 3)) (Aj (i:=5) scWLeast.nd rfl (Or.inl rfl)) (Ag (Da (Ao Bc (pv 4) (pv 5) (λ_ _=>rfl)) (Mm (pv 2) (pv 5) Fw)))))))
   (Ag (As (pv 2)))),?_⟩
  refine⟨small (by simp),λt0 ht0=> ?_⟩;have s1:=Ac (o:= .tup []) ht0;generalize upd H t0 (.tup [])=H1 at s1;refine⟨small (by simp),λq hq=> ?_⟩;have s2:=Ac (o:= .lst [.ref t0]) hq;have q2:=Ab (H:=H1) (a:=q) (o:= .lst [.ref t0]);generalize upd H1 q (.lst [.ref t0])=H2 at s2 q2;refine⟨_,rfl,q,(N:Int),_,rfl,rfl,q2,by omega,by omega,small (by show 1 * (N:Int).toNat<=10000;omega),λl hl=> ?_⟩;have eN:(N:Int).toNat=N:=by omega
  rw[eN,Zi];have s3:=Ac (o:= .lst ((replicate N t0).map V.ref)) hl;have l3:=Ab (H:=H2) (a:=l) (o:= .lst ((replicate N t0).map V.ref));have S3:=(s1.trans s2).trans s3;have hl0:H l=none:=none_of (s1.trans s2) hl;generalize upd H2 l (.lst ((replicate N t0).map V.ref))=H3 at s3 l3 S3;refine⟨_,rfl,_,rfl,N,st,S,rfl,hst.same S3,hN,N60,S100,λpa ps H4 s4 e4 p4=> ?_⟩;have S4:=S3.trans s4;have l4:=s4 _ _ l3;refine⟨pa,rfl,⟨_,SqT.of e4⟩,Na (K:=K) (a:=pa) (xs:=ps.map V.ref) (λi σ H5=>∃(u3 u4 u5:Option V) (as:List Addr),σ=[some (.int (N:Int)),some (.ref st),some (.ref l),u3,u4,u5]/\Same H H5/\(∀r zs,H4 r=some (.tup zs)->H5 r=some (.tup zs))/\H5 l=some (.lst (as.map V.ref))/\as.length=N/\∀(j p:Nat),j<i->(lsF N S)[j]? =some p->∀v∈Az N S p,∃a ws,as[v]? =some a/\H5 a=some (.tup (ws.map V.str))/\FL N S v ws) ⟨_,_,_,replicate N t0,rfl,S4,λ_ _ e=>e,l4,by simp,λj p h=>absurd h (by omega)⟩ (λi σ H5 _ ⟨_,_,_,_,_,_,f,_⟩=>SqT.of (f _ _ e4)) ?_ ?_⟩
  ·intro i x σ H5 hx hI5_ E5 hE5 _;refine Ck λG_ hG_=> ?_;obtain⟨u3,u4,u5,as,rfl,S5,t5,l5,al,d5⟩:=hI5_;obtain⟨r,er,rfl⟩:=map_some hx;have hi:i<(lsF N S).length:=by rw[<-p4.1];exact(List.getElem?_eq_some_iff.mp er).1
   have hp:=Cc hi;refine hG_ ?_;generalize (lsF N S)[i]=p at hp;have pm:=mem_of_getElem? hp;have pN:=Ha pm;have r5:=t5 _ _ (p4.2 i r p er hp);have p0:(Az N S p)[0]? =some p:=by simpa using(mem_filter.mp pm).2
   refine⟨_,rfl,_,rfl,_,rfl,r,_,0,_,rfl,rfl,SqT.of r5,nV_at (k:=0) p0,N,st,S,p,rfl,hst.same S5,hN,N60,S100,pN,λwa H6 s6 W6=> ?_⟩;have r6:=s6 _ _ r5;have S6:=S5.trans s6;have l6:=s6 _ _ l5;have t6:∀r zs,H4 r=some (.tup zs)->H6 r=some (.tup zs):=λr zs e=>s6 _ _ (t5 _ _ e);have wl:=Qv hN pN N60;refine⟨_,rfl,r,rfl,⟨_,SqT.of r6⟩,Na (K:=K) (a:=r) (xs:=nV (Az N S p)) (λj σ H7=>∃(u5:Option V) (as:List Addr),σ=[some (.int (N:Int)),some (.ref st),some (.ref l),some (.ref r),some (.ref wa),u5]/\Same H H7/\(∀r zs,H6 r=some (.tup zs)->H7 r=some (.tup zs))/\H7 l=some (.lst (as.map V.ref))/\as.length=N/\WaysAt H7 wa (Dq N S p)/\(∀(j p:Nat),j<i->(lsF N S)[j]? =some p->∀v∈Az N S p,∃a ws,as[v]? =some a/\H7 a=some (.tup (ws.map V.str))/\FL N S v ws)/\∀v∈(Az N S p).take j,∃a ws,as[v]? =some a/\H7 a=some (.tup (ws.map V.str))/\FL N S v ws) ⟨_,as,rfl,S6,λ_ _ e=>e,l6,al,W6,λj p hj hp v hv=>let ⟨a,ws,x,y,z⟩:=d5 j p hj hp v hv;⟨a,ws,x,s6 _ _ y,z⟩,by simp⟩ (λj σ H7 _ ⟨_,_,_,_,f,_⟩=>SqT.of (f _ _ r6)) ?_ ?_⟩
   ·intro j x σ H7 hx hI5_ E7 hE7 _;refine Ck λG_ hG_=> ?_;obtain⟨u5,as,rfl,S7,t7,l7,al,W7,d7,v7⟩:=hI5_;refine hG_ ?_;unfold nV at hx;obtain⟨z',hz',rfl⟩:=map_some hx;obtain⟨v,hv,rfl⟩:=map_some hz';have vm:=mem_of_getElem? hv;have vN:=((Cp hN pN N60).mp vm).1;obtain⟨ws,hws⟩:∃ws,Vis (Dq N S p) v ws:=vis_iff.mp (by have:=(mem_filter.mp vm).2;simpa using this);obtain⟨xs,x,hxs,hx,_,a,rfl,ha⟩:=W7.get hws;have fl:FL N S v ws:=⟨p,pm,hws⟩
    have tk:(Az N S p).take (j+1)=(Az N S p).take j++[v]:=by rw[Qb2,hv];rfl
    refine⟨_,rfl,_,rfl,wa,_,_,_,rfl,rfl,SqL.of hxs,Am hx,_,rfl,_,rfl,l,_,_,v,rfl,rfl,l7,(by have h:ixN (as.map V.ref).length (v:Int)=some v:=Kq (by rw[If];omega);exact h),?_⟩;have kp:∀(r:Addr) (zs:List V) (o:HO),H7 r=some (.tup zs)->upd H7 l o r=some (.tup zs):=λr zs o e=>by rw[Ai (Ar e l7 (by intro z;cases z))];exact e
    have es:(as.map V.ref).set v (.ref a)=(as.set v a).map V.ref:=by rw[List.map_set]
    rw[es];have W8:WaysAt (upd H7 l (.lst ((as.set v a).map V.ref))) wa (Dq N S p):=by
     by_cases nwl:wa=l
     ·rw[nwl] at hxs W7 ⊢;rw[l7] at hxs;cases hxs;have e:(as.set v a).map V.ref=as.map V.ref:=by
       rw[<-es];obtain⟨hh,ee⟩:=List.getElem?_eq_some_iff.mp hx;rw[<-ee,List.set_getElem_self]
      rw[e];obtain⟨xs,x1,x2,x3⟩:=W7;rw[l7] at x1;cases x1;exact⟨_,Ab,x2,λi u o e f=>(x3 i u o e f).mono λr ys h=>kp _ _ _ h⟩
     ·exact W7.keep l7 nwl
    have up:∀u,(∃a' ws',as[u]? =some a'/\H7 a'=some (.tup (ws'.map V.str))/\FL N S u ws')->∃a' ws',(as.set v a)[u]? =some a'/\upd H7 l (.lst ((as.set v a).map V.ref)) a'=some (.tup (ws'.map V.str))/\FL N S u ws':=λu ⟨a',ws',x,y,z⟩=>by
     by_cases e:v=u
     ·subst e;exact⟨a,ws,List.getElem?_set_self (by omega),kp _ _ _ ha,fl⟩
     ·exact⟨a',ws',by rw[List.getElem?_set_ne e];exact x,kp _ _ _ y,z⟩
    refine hE7 _ _ ⟨_,as.set v a,rfl,A8 S7 hl0,λr zs e=>kp _ _ _ (t7 _ _ e),Ab,by rw[length_set];exact al,W8,λj p hj hp u hu=>up u (d7 j p hj hp u hu),λu hu=> ?_⟩;rw[tk] at hu;rcases mem_append.mp hu with h|h
    ·exact up u (v7 u h)
    ·rw[mem_singleton.mp h];exact⟨a,ws,List.getElem?_set_self (by omega),kp _ _ _ ha,fl⟩
   ·intro σ H7 hI2_;refine Ck λG_ hG_=> ?_;obtain⟨u5,as,rfl,S7,t7,l7,al,W7,d7,v7⟩:=hI2_;have eln:(nV (Az N S p)).length=(Az N S p).length:=by unfold nV;rw[If,If]
    refine hG_ ?_;rw[eln,Qb8] at v7;refine hE5 _ _ ⟨_,_,_,as,rfl,S7,λr zs e=>t7 _ _ (t6 _ _ e),l7,al,λj p' hj hp' v hv=> ?_⟩;by_cases e:j=i
    ·subst e;rw[hp] at hp';cases hp';exact v7 v hv
    ·exact d7 j p' (by omega) hp' v hv
  ·intro σ H5 hI2_;refine Ck λG_ hG_=> ?_;obtain⟨u3,u4,u5,as,rfl,S5,t5,l5,al,d5⟩:=hI2_;refine hG_ ?_;rw[If,p4.1] at d5;refine⟨_,rfl,k l H5 S5 ⟨as,l5,al,λv a hv=> ?_⟩⟩;have vN:v<N:=by rw[<-al];exact(List.getElem?_eq_some_iff.mp hv).1
   obtain⟨p,_,pm,pr⟩:=Nq hN vN N60;obtain⟨j,hj⟩:=getElem?_of_mem pm;obtain⟨a',ws,x,y,z⟩:=d5 j p (List.getElem?_eq_some_iff.mp hj).1 hj v ((Cp hN (Ha pm) N60).mpr ⟨vN,pr⟩);rw[hv] at x;cases x;exact⟨ws,y,z⟩
def rLenX(K:Frag):List V->Hp->VK->Prop:=λxs H Q=>∃p ys,xs=[.ref p]/\(SqL K H p ys\/SqT K H p ys)/\Q (.int ys.length) H
structure Good(N:Nat)(S:List T4)(ns:List Int):Prop where
 len:ns.length=N
 two:∀v,v<N->ns.getD v 0=0\/ns.getD v 0=1
 ties:∀t∈S,ns.getD t.2.1 0≠ns.getD t.2.2.1 0
theorem int_at{ns:List Int}{v:Nat}(h:v<ns.length):atI (ns.map V.int) (v:Int)=some (.int (ns.getD v 0)):=Am (by rw[getElem?_map,Cc h,Qb5,Cc h];rfl)
theorem FL.uniq{N v:Nat}{S:List T4}{x y:List Str}(hS:InN N S)(hN:N<=60)(hx:FL N S v x)(hy:FL N S v y):x=y:=by
 obtain⟨p,hp,vx⟩:=hx;obtain⟨q,hq,vy⟩:=hy;have e:p=q:=P8 hS hN hp hq (Reach.trans ⟨x,Dy hS (Ha hp) hN vx⟩ (Reach.symm ⟨y,Dy hS (Ha hq) hN vy⟩));subst e;exact Kn vx vy
def RingAs(N:Nat)(S:List T4)(ws:List Str):Prop:=∃(i:Nat) (t:T4) (x y c x' y':List Str),S[i]? =some t/\FL N S t.2.1 x/\FL N S t.2.2.1 y/\x.length % 2=y.length % 2/\(∀u∈S.take i,∀a b,FL N S u.2.1 a->FL N S u.2.2.1 b->a.length % 2≠b.length % 2)/\x=c++x'/\y=c++y'/\x'.head? ≠y'.head? /\ws=x'++[t.1]++y'.reverse
def Told(N:Nat)(S:List T4)(sd:Bool)(xs:List V):Prop:=(sd=true/\∃ns:List Int,xs=ns.map V.int/\Good N S ns/\∀v,v<N->Par N S v (ns.getD v 0))\/(sd=false/\∃ws:List Str,xs=ws.map V.str/\Ring N S ws/\ws.length<=61/\RingAs N S ws)
theorem Good.two'{N:Nat}{S:List T4}{ns:List Int}(h:Good N S ns)(hS:InN N S):Two S:=⟨λv=>if v<N then ns.getD v 0 else 0,λv=>by
 show (if v<N then ns.getD v 0 else 0)=0\/(if v<N then ns.getD v 0 else 0)=1;split
 ·rename_i hv;exact h.two v hv
 ·exact .inl rfl,λt ht=>by
 have tN:=hS t ht;show (if t.2.1<N then ns.getD t.2.1 0 else 0)≠(if t.2.2.1<N then ns.getD t.2.2.1 0 else 0);rw[Qa2 tN.1,Qa2 tN.2];exact h.ties t ht⟩
def wordF(sd:Bool):Str:=Str.ofString (if sd then "sides" else "ring")
structure SOk(N:Nat)(S:List T4):Prop where
 inn:InN N S
 nd:(S.map (·.1)).Nodup
 ne:∀t∈S,t.2.1≠t.2.2.1
 len:S.length<=60
inductive Rx(vs:List V)(H:Hp)(Q:VK)(u_3:XK):Prop
 |mk (l tr a1 a2:Addr) (as:List Addr) (t:T4) (x y:List Str):(vs=[.ref l,.ref tr])->(H l=some (.lst (as.map V.ref)))->(H tr=some (.tup (Fj t)))->(as[t.2.1]? =some a1)->(as[t.2.2.1]? =some a2)->(H a1=some (.tup (x.map V.str)))->(H a2=some (.tup (y.map V.str)))->(x.length=y.length)->(x≠y)->(x.length<=100)->(∀(r:Addr) (c x' y':List Str) (H':Hp),Same H H'->x=c++x'->y=c++y'->x'.head? ≠y'.head? ->H' r=some (.tup ((x'++[t.1]++y'.reverse).map V.str))->Q (.ref r) H')->Rx vs H Q u_3
def Pd:Sp:=λvs H Q u_3=>Rx vs H Q u_3
inductive Lj(vs:List V)(H:Hp)(Q:VK)(u_3:XK):Prop
 |mk (N:Nat) (st:Addr) (S:List T4):(vs=[.int (N:Int),.ref st])->(StandAt H st S)->(SOk N S)->(N<=30)->(∀(r wa:Addr) (sd:Bool) (xs:List V) (H':Hp),Same H H'->H' r=some (.tup [.str (wordF sd),.ref wa])->H' wa=some (.tup xs)->Told N S sd xs->Q (.ref r) H')->Lj vs H Q u_3
def Jf:Sp:=λvs H Q u_3=>Lj vs H Q u_3
theorem str_eq(a b:Str):decide (V.str a=V.str b)=decide (a=b):=by
 rw[Bool.eq_iff_iff,Qa4,Qa4];exact⟨λe=>by injection e,λe=>by rw[e]⟩
theorem scRingO:Av ["ways","tie","there","back"] ["ways","tie"] (Ah T2):=⟨rfl,rfl,rfl,by decide+kernel,rfl,by decide+kernel,by decide+kernel⟩
theorem Zg{f:Addr}{fd:FuncData}(F:Fun K "ring_over" "ring_over" T2 f fd)(T:Txt K mg C I):
  FnOk P w K mg base CX0 1 f fd ["ways","tie"] Pd:=by
 refine F.ok scRingO (λvs H Q E h=> ?_) (λcdv A outer s H vs Q E hr h=> ?_)
 ·obtain⟨_,_,_,_,_,_,_,_,rfl,_⟩:=h;rfl
 ·obtain⟨l,tr,a1,a2,as,t,x,y,rfl,hl,htr,e1,e2,h1,h2,xy,ne,x100,k⟩:=h;refine⟨_,Ae (Zd (i:=2) (j:=3) rfl scRingO.nd rfl rfl (by decide) rfl rfl (Aa (Ao Bc (pv 0) (Ao At (pv 1) Af (λ_ _=>rfl)) (λ_ _=>rfl)) (Aa (Ao Bc (pv 0) (Ao At (pv 1) Af (λ_ _=>rfl)) (λ_ _=>rfl)) Ad)) rfl)
   (Ae (Qz PassesOwn.never (Ax Bq (Ao At (pv 2) Af (λ_ _=>rfl)) (Ao At (pv 3) Af (λ_ _=>rfl)) (Aw _)) (Ag (Zd (i:=2) (j:=3) rfl scRingO.nd rfl rfl (by decide) rfl rfl (Aa (Ch El (pv 2) (Bt Af) Dw) (Aa (Ch El (pv 3) (Bt Af) Dw) Ad)) rfl)))
   (Ag (As (Au Ib (Au Ib (pv 2) (A1 (Aa (Ao At (pv 1) Af (λ_ _=>rfl)) Ad))) (pe_revT (pv 3) (Bt (Mj Hh Af)) (λo i=>[o,i]) (λ_ _=>by with_unfolding_all rfl)))))),?_⟩
  refine⟨_,rfl,_,rfl,tr,_,1,_,rfl,rfl,SqT.of htr,Am (j:=1) rfl,l,_,_,_,rfl,rfl,SqL.of hl,Am (by rw[getElem?_map,e1];rfl),_,rfl,_,rfl,tr,_,2,_,rfl,rfl,SqT.of htr,Am (j:=2) rfl,l,_,_,_,rfl,rfl,SqL.of hl,Am (by rw[getElem?_map,e2];rfl),_,_,rfl,?_⟩;dsimp only[Qs,Xc];refine Xd (λm σ H5=>∃(th ba:Addr) (c x' y':List Str),σ=[some (.ref l),some (.ref tr),some (.ref th),some (.ref ba)]/\Same H H5/\x=c++x'/\y=c++y'/\H5 th=some (.tup (x'.map V.str))/\H5 ba=some (.tup (y'.map V.str))/\m=x'.length) (m0:=x.length) ⟨a1,a2,[],x,y,rfl,Cw _,rfl,rfl,h1,h2,rfl⟩ ?_ ?_
  rotate_left
  ·intro σ H Q Q' f hI5_;refine Ck λG_ hG_=> ?_;obtain⟨v2,e2,a,xs,i,u,ea,ei,ha,hu,v3,e3,b,ys,j,w,eb,ej,hb,hw,h1,bb,ebb,q⟩:=hI5_;refine hG_ ?_;exact⟨v2,e2,a,xs,i,u,ea,ei,ha,hu,v3,e3,b,ys,j,w,eb,ej,hb,hw,h1,bb,ebb,f _ _ q⟩
  intro m σ H5 hI3_ E_;refine Ck λG_ hG_=> ?_;obtain⟨th,ba,c,x',y',rfl,s5,ex,ey,hth,hba,hm⟩:=hI3_;have hl':x'.length=y'.length:=by rw[ex,ey,Qa3,Qa3] at xy;omega
  have hne:x'≠y':=λe=>ne (by rw[ex,ey,e]);obtain⟨n,x2,rfl⟩:∃n x2,x'=n::x2:=by
   cases x' with
   |nil=>cases y' with
    |nil=>exact absurd rfl hne
    |cons _ _=>cases hl'
   |cons n x2=>exact⟨n,x2,rfl⟩
  obtain⟨n',y2,rfl⟩:∃n' y2,y'=n'::y2:=by
   cases y' with
   |nil=>cases hl'
   |cons n y2=>exact⟨n,y2,rfl⟩
  refine hG_ ?_;refine⟨_,rfl,th,_,0,_,rfl,rfl,SqT.of hth,Am (j:=0) rfl,_,rfl,ba,_,0,_,rfl,rfl,SqT.of hba,Am (j:=0) rfl,rfl,_,rfl,?_⟩;rw[str_eq];by_cases g:n=n'
  ·rw[decide_eq_true g];refine Ew ?_;subst g;refine⟨_,rfl,_,rfl,Tu (Fq hth λt1 H6 s6 e6=> ?_)⟩;have e6:H6 t1=some (.tup (x2.map V.str)):=by rw[e6];exact Qc7 (λz=>some (HO.tup z)) (Og (xs:=(n::x2).map V.str) (n:=1))
   refine⟨_,rfl,_,rfl,Tu (Fq (s6 _ _ hba) λt2 H7 s7 e7=> ?_)⟩;have e7:H7 t2=some (.tup (y2.map V.str)):=by rw[e7];exact Qc7 (λz=>some (HO.tup z)) (Og (xs:=(n::y2).map V.str) (n:=1))
   exact⟨_,_,rfl,x2.length,by rw[hm,Qb4];exact le_refl _,t1,t2,c++[n],x2,y2,rfl,(s5.trans s6).trans s7,by rw[ex,append_assoc];rfl,by rw[ey,append_assoc];rfl,s7 _ _ e6,e7,rfl⟩
  rw[decide_eq_false g];refine C4 ?_;have x2l:(n::x2).length<=100:=by rw[ex,Qa3] at x100;omega
  refine⟨_,rfl,_,rfl,tr,_,0,_,rfl,rfl,SqT.of (s5 _ _ htr),Am (j:=0) rfl,small (by simp),λq hq=> ?_⟩;have s6:=Ac (o:= .tup [.str t.1]) hq;have q6:upd H5 q (.tup [.str t.1]) q=some (.tup ([t.1].map V.str)):=Ab;generalize upd H5 q (.tup [.str t.1])=H6 at s6 q6;refine V0 (s6 _ _ hth) q6 (by rw[If,If];show _+1<=_;exact lt_of_le_of_lt (by assumption) (by decide)) λr1 H7 s7 e7=> ?_;rw[<-map_append] at e7;have ba7:=(s6.trans s7) _ _ hba;refine⟨_,rfl,_,rfl,_,rfl,ba,_,rfl,rfl,SqT.of ba7,by rw[If];omega,λz hz=> ?_⟩;have s8:=Ac (o:= .tup ((n'::y2).map V.str).reverse) hz;have z8:upd H7 z (.tup ((n'::y2).map V.str).reverse) z=some (.tup ((n'::y2).reverse.map V.str)):=by rw[Ab,List.map_reverse]
  generalize upd H7 z (.tup ((n'::y2).map V.str).reverse)=H8 at s8 z8;refine V0 (s8 _ _ e7) z8 (by rw[If,If,Qa3,length_reverse];show _+1+_<=_;omega) λr2 H9 s9 e9=> ?_;rw[<-map_append] at e9;exact k r2 c _ _ H9 ((((s5.trans s6).trans s7).trans s8).trans s9) ex ey (λz=>g (Option.some.inj z)) e9
theorem scSidesOf:Av ["many","stand","ways","numbers","tie"] ["many","stand"] (Ah Ik):=⟨rfl,rfl,rfl,by decide+kernel,rfl,by decide+kernel,by decide+kernel⟩
theorem Vc{f:Addr}{fd:FuncData}(F:Fun K "sides_of" "sides_of" Ik f fd)(T:Txt K mg C I)(GWLeast:Cl P w K mg base 5 "ways_from_least" ["many","stand"] Mn)(GRingO:Cl P w K mg base 5 "ring_over" ["ways","tie"] Pd):
  FnOk P w K mg base CX0 6 f fd ["many","stand"] Jf:=by
 refine F.ok scSidesOf (λvs H Q E h=> ?_) (λcdv A outer s H vs Q E hr h=> ?_)
 ·obtain⟨_,_,_,rfl,_⟩:=h;rfl
 ·obtain⟨N,st,S,rfl,hst,hS,N30,k⟩:=h;refine⟨_,Ae (Aq (i:=2) scSidesOf.nd rfl (Or.inl rfl) (A7 GWLeast hr (Aa (pv 0) (Aa (pv 1) Ad))))
   (Ae (Aq (i:=3) scSidesOf.nd rfl (Or.inl rfl) (Bb Ba (by rfl) T.tuple (by decide+kernel) (Aa (Cg (T:=["way"]) (F:=[]) (js:=[]) (cs (osc:=Ah Ik)) rfl (Cd (pv 2)) (λ_ _ _ _ _=>Aj (i:=0) (show (["way"]:List Str).Nodup by decide+kernel) rfl (Or.inl rfl)) (λ_ _ _ _ _=>Ce) (λ_ _ _ _ _=>Au Cv (A0 (r:=rLenX K) Ay (by rfl) T.len PySem.boot_len (Aa (pv 0) Ad)) Af)) Ad)))
   (Ae (Cb PassesOwn.never rfl (Ds (pv 1)) (Aj (i:=4) scSidesOf.nd rfl (Or.inl rfl)) (Ag (Br (Ax Bq (Ao At (pv 3) (Ao At (pv 4) Af (λ_ _=>rfl)) (λ_ _=>rfl)) (Ao At (pv 3) (Ao At (pv 4) Af (λ_ _=>rfl)) (λ_ _=>rfl)) (Aw _)) (Ag (As (A1 (Aa Bs (Aa (A7 GRingO hr (Aa (pv 2) (Aa (pv 4) Ad))) Ad))))) Bd)))
   (Ag (As (A1 (Aa Bs (Aa (pv 3) Ad))))))),?_⟩
  have S60:=hS.len;have hN:=hS.inn;refine⟨_,rfl,_,rfl,N,st,S,rfl,hst,hN,by exact le_trans (by assumption) (by decide),by exact le_trans (by assumption) (by decide),λl H1 s1 F1=> ?_⟩;obtain⟨as,hl,al,hf⟩:=F1;refine⟨_,rfl,l,rfl,⟨_,SqL.of hl⟩,λD hD=>Cz (K:=K) (a:=l) (xs:=as.map V.ref) (λj σ ys H6=>∃(u:Option V) (ns:List Int),σ=[u]/\ys=ns.map V.int/\Same H1 H6/\H6 D=some (.lst ys)/\ns.length=j/\∀v,v<j->∃a ws,as[v]? =some a/\H1 a=some (.tup (ws.map V.str))/\FL N S v ws/\ns.getD v 0=((ws.length % 2:Nat):Int)) ⟨none,[],rfl,rfl,Ac hD,Ab,rfl,λv h=>absurd h (by omega)⟩ (λj σ ys H6 _ ⟨_,_,_,_,e,f,_⟩=>⟨SqL.of (e _ _ hl),f⟩) ?_ ?_⟩
  ·intro j x σ ys H6 hx hI6_;refine Ck λG_ hG_=> ?_;obtain⟨u,ns,rfl,rfl,s6,D6,nl,nv⟩:=hI6_;obtain⟨a,ha,rfl⟩:=map_some hx;have hj:j<N:=by rw[<-al];exact(List.getElem?_eq_some_iff.mp ha).1
   obtain⟨ws,hw,fl⟩:=hf j a ha;refine hG_ ?_;refine⟨_,rfl,a,_,rfl,.inr (SqT.of (s6 _ _ hw)),_,_,rfl,rfl,(by show (0:Int)<2;decide),D6,Ap (by rw[If];omega),_,ns++[((ws.map V.str).length:Int) % 2],rfl,by rw[map_append];rfl,A8 s6 hD,Ab,by simp[nl],λv hv=> ?_⟩;by_cases e:v=j
   ·subst e;refine⟨a,ws,ha,hw,fl,?_⟩;rw[Qb5,getElem?_append_right (by exact le_of_eq (by assumption)),nl,Nat.sub_self,If];show (ws.length:Int) % 2=_;omega
   ·obtain⟨a',ws',x1,x2,x3,x4⟩:=nv v (by omega);refine⟨a',ws',x1,x2,x3,?_⟩;rw[Qb5,getElem?_append_left (by omega),<-Qb5];exact x4
  intro σ ys H6 hI3_;refine Ck λG_ hG_=> ?_;obtain⟨u,ns,rfl,rfl,s6,D6,nl,nv⟩:=hI3_;refine hG_ ?_;rw[If,al] at nl nv;refine⟨D,_,rfl,.inl ⟨SqL.of D6,λnt hnt=> ?_⟩⟩;have s7:=Ac (o:= .tup (ns.map V.int)) hnt;have n7:=Ab (H:=H6) (a:=nt) (o:= .tup (ns.map V.int));generalize upd H6 nt (.tup (ns.map V.int))=H7 at s7 n7;have S17:=s6.trans s7;have S7:=s1.trans S17;obtain⟨rs,est,hrs⟩:=id hst;have st7:=S7 _ _ est;refine⟨_,rfl,st,rfl,⟨_,SqT.of st7⟩,Rh (K:=K) (a:=st) (xs:=rs.map V.ref) (λi σ H5=>∃(u4:Option V),σ=[some (.int (N:Int)),some (.ref st),some (.ref l),some (.ref nt),u4]/\H5=H7/\∀t∈S.take i,ns.getD t.2.1 0≠ns.getD t.2.2.1 0) ⟨_,rfl,rfl,by simp⟩ (λi σ H5 _ ⟨_,_,e,_⟩=>by rw[e];exact SqT.of st7) ?_ ?_⟩
  ·intro i x σ H5 hx hI5_ E_;refine Ck λG_ hG_=> ?_;obtain⟨u4,rfl,rfl,no⟩:=hI5_;obtain⟨r,hr',rfl⟩:=map_some hx;obtain⟨t,ht,er⟩:=hrs.get hr';have tm:=mem_of_getElem? ht;have tN:=hN t tm;have tk:S.take (i+1)=S.take i++[t]:=by rw[Qb2,ht];rfl
   have er7:=S7 _ _ er;refine hG_ ?_;refine⟨_,rfl,_,rfl,r,_,1,_,rfl,rfl,SqT.of er7,Am (j:=1) rfl,nt,_,_,_,rfl,rfl,SqT.of n7,int_at (by omega),_,rfl,_,rfl,r,_,2,_,rfl,rfl,SqT.of er7,Am (j:=2) rfl,nt,_,_,_,rfl,rfl,SqT.of n7,int_at (by omega),rfl,_,rfl,?_⟩;by_cases g:ns.getD t.2.1 0=ns.getD t.2.2.1 0
   ·rw[show decide (V.int (ns.getD t.2.1 0)=V.int (ns.getD t.2.2.1 0))=true from decide_eq_true (by rw[g])];refine Ew ?_;obtain⟨a1,x,ea1,ha1,fx,nx⟩:=nv _ tN.1;obtain⟨a2,y,ea2,ha2,fy,ny⟩:=nv _ tN.2;obtain⟨p,pN,lx,ly,d1,d2⟩:=FL.tie hN (by exact le_trans (by assumption) (by decide)) tm fx fy;have hl':x.length=y.length:=by rw[nx,ny] at g;omega
    have hxy:x≠y:=λe=>hS.ne t tm (by
     have g1:=Ko hS.nd lx;have g2:=Ko hS.nd ly;rw[e,g2] at g1;exact(Option.some.inj g1).symm)
    have xl:=FL.len hN fx;refine⟨_,rfl,_,rfl,l,r,a1,a2,as,t,x,y,rfl,S17 _ _ hl,er7,ea1,ea2,S17 _ _ ha1,S17 _ _ ha2,hl',hxy,by omega,λw c x' y' H8 s8 ex ey hd ew=>⟨small (by simp),λq hq=> ?_⟩⟩;have rg:=Yn hN hS.nd pN tm lx ly ex ey hl';have sq:=Ac (o:= .tup [.str (Str.ofString "ring"),.ref w]) hq;have xl1:x'.length<=30:=by rw[ex,Qa3] at xl;omega
    have yl1:y'.length<=30:=by rw[hl',ey,Qa3] at xl;omega
    refine k q w false _ _ ((S7.trans s8).trans sq) Ab (sq _ _ ew) (.inr ⟨rfl,_,rfl,rg,by rw[Qa3,Qa3,length_reverse];show _+1+_<=61;omega,i,t,x,y,c,x',y',ht,fx,fy,by omega,λu hu a b fa fb=> ?_,ex,ey,hd,rfl⟩);have uN:=hN u (List.mem_of_mem_take hu);obtain⟨_,a',_,_,fa',na⟩:=nv _ uN.1;obtain⟨_,b',_,_,fb',nb⟩:=nv _ uN.2;have:=no u hu;rw[na,nb,FL.uniq hN (by exact le_trans (by assumption) (by decide)) fa' fa,FL.uniq hN (by exact le_trans (by assumption) (by decide)) fb' fb] at this;omega
   ·rw[show decide (V.int (ns.getD t.2.1 0)=V.int (ns.getD t.2.2.1 0))=false from decide_eq_false (λe=>g (by injection e))];refine C4 ⟨_,rfl,rfl,λt' ht'=> ?_⟩;rw[tk] at ht';rcases mem_append.mp ht' with h|h
    ·exact no t' h
    ·rw[mem_singleton.mp h];exact g
  ·intro σ H5 hI2_;refine Ck λG_ hG_=> ?_;obtain⟨u4,rfl,rfl,no⟩:=hI2_;refine hG_ ?_;rw[If,hrs.1,Qb8] at no;refine⟨_,rfl,small (by simp),λr hr'=> ?_⟩;have sq:=Ac (o:= .tup [.str (Str.ofString "sides"),.ref nt]) hr';refine k r nt true _ _ (S7.trans sq) Ab (sq _ _ n7) (.inl ⟨rfl,ns,rfl,⟨nl,λv hv=> ?_,no⟩,λv hv=> ?_⟩)
   ·obtain⟨_,ws,_,_,_,e⟩:=nv v hv;rw[e];omega
   ·obtain⟨_,ws,_,_,f,e⟩:=nv v hv;rw[e];exact f.par hN (by exact le_trans (by assumption) (by decide))
inductive Oe(vs:List V)(H:Hp)(Q:VK)(u_3:XK):Prop
 |mk (h:Addr) (N:Nat) (ds:List Dd) (n:Nat):(vs=[.ref h,.int (n:Int)])->(HistAt H h N ds)->(Db N ds)->(n<=ds.length)->(∀st S H',Same H H'->StandAt H' st S->Srtd S (thr (ds.take n))->Q (.ref st) H')->Oe vs H Q u_3
def K7:Sp:=λvs H Q u_3=>Oe vs H Q u_3
theorem U9{H H':Hp}{qs qs':List Srt.Row}{S:List T4}{st:Addr}(hat:∀q∈qs,IsTie q.2/\H q.1=some (.tup (q.2.map kV)))(hS:(qs.map λq=>Ls q.2).Perm S)(perm:qs'.Perm qs)(srt:qs'.Pairwise λa b=>Srt.ltR b.2 a.2=false)(s:Same H H')(hst:H' st=some (.tup (qs'.map Srt.rRef))):
  StandAt H' st (qs'.map λq=>Ls q.2)/\Srtd (qs'.map λq=>Ls q.2) S:=by
 have hk:∀q∈qs',Et (Ls q.2)=q.2:=λq hq=>by
  obtain⟨⟨t,e⟩,_⟩:=hat q (perm.mem_iff.mp hq);rw[e,Hx]
 refine⟨⟨qs'.map (·.1),?_,?_⟩,(perm.map _).trans hS,?_⟩
 ·have:(qs'.map (·.1)).map V.ref=qs'.map Srt.rRef:=by rw[map_map];rfl
  rw[this];exact hst
 ·refine⟨by simp,λi a t ha ht=> ?_⟩;obtain⟨q,hq,rfl⟩:=map_some ha;rw[getElem?_map,hq] at ht;cases ht;obtain⟨⟨t,e⟩,h9⟩:=hat q (perm.mem_iff.mp (mem_of_getElem? hq));show _=some (HO.tup (Fj (Ls q.2)));rw[e,Hx,<-X5,<-e];exact s _ _ h9
 ·rw[Qc4];refine srt.imp_of_mem λ{a b} ha hb h=> ?_;rw[hk a ha,hk b hb];exact h
theorem scStandB:Av ["history","n","there","deed","name"] ["history","n"] (Ah Pf):=⟨rfl,rfl,rfl,by decide+kernel,rfl,by decide+kernel,by decide+kernel⟩
theorem Wu{f:Addr}{fd:FuncData}(F:Fun K "stand_behind" "stand_behind" Pf f fd)(T:Txt K mg C I):
  FnOk P w K mg base CX0 1 f fd ["history","n"] K7:=by
 refine F.ok scStandB (λvs H Q E h=> ?_) (λcdv A outer s H vs Q E hr h=> ?_)
 ·obtain⟨_,_,_,_,rfl,_⟩:=h;rfl
 ·obtain⟨h,N,ds,n,rfl,⟨tp,rs,eh,et,hdd⟩,hR,hn,k⟩:=h;refine⟨_,Ae (Aq (i:=2) scStandB.nd rfl (Or.inl rfl) Io)
   (Ae (Cb PassesOwn.never rfl (Ds (PE.imp' (t':=tTakeH K 0 1) (Ch El (Ao At (pv 0) Af (λ_ _=>rfl)) Dw (Bt (pv 1))) takeH_ok)) (Aj (i:=3) scStandB.nd rfl (Or.inl rfl)) (Ae (Aq (i:=4) scStandB.nd rfl (Or.inl rfl) (Ao At (pv 3) Af (λ_ _=>rfl)))
   (Ag (Br (Ax Bq (Ao At (pv 3) Af (λ_ _=>rfl)) Bs (Aw _)) (Ag (Kl (Dk hr) (pv 2) (pv 4) (Ch Y0 (pv 3) (Bt Af) Dw) rfl)) (Ag (ps_ddel (pv 2) (pv 4)))))))
   (Ag (As (Bb Ba (by rfl) T.tuple (by decide+kernel) (Aa (A0 (Srt.call_sortedV rfl) (by rfl) T.sorted (by decide+kernel) (Aa (Srt.pe_dvals (pv 2) rfl rfl) Ad)) Ad))))),?_⟩
  refine λth hth=> ?_;have s1:=Ac (o:= .dK []) hth;have d1:=Ab (H:=H) (a:=th) (o:= .dK []);generalize upd H th (.dK [])=H1 at s1 d1;have lrs:=hdd.1;refine⟨h,tp,_,n,rs.map V.ref,rfl,rfl,s1 _ _ eh,s1 _ _ et,by rw[If];omega,λp0 H2 s2 hp0=> ?_⟩;rw[<-map_take] at hp0;have n60:=hR.len;refine⟨p0,rfl,⟨_,SqT.of hp0⟩,Na (K:=K) (a:=p0) (xs:=(rs.take n).map V.ref) (λi σ H3=>∃(x3 x4:Option V) (ps:Ps),σ=[some (.ref h),some (.int (n:Int)),some (.ref th),x3,x4]/\Same H H3/\H3 p0=some (.tup ((rs.take n).map V.ref))/\ThF H3 th ps/\ps.map (·.1)=thr (ds.take i)) ⟨none,none,[],rfl,s1.trans s2,hp0,⟨s2 _ _ d1,by simp⟩,rfl⟩ (λi σ H3 _ ⟨_,_,_,_,_,e,_⟩=>SqT.of e) ?_ ?_⟩
  ·intro i x σ H3 hx hI5_ E3 hE3 _;refine Ck λG_ hG_=> ?_;obtain⟨x3,x4,ps,rfl,s3,p3,T3,fs⟩:=hI5_;obtain⟨r,er,rfl⟩:=map_some hx;have li:i<n:=by have:=(List.getElem?_eq_some_iff.mp er).1;rw[Qb0] at this;omega
   refine hG_ ?_;rw[List.getElem?_take_of_lt li] at er;obtain⟨dd,ed,r0⟩:=hdd.get er;have r3:=s3 _ _ r0;have hok:=hR.ok i dd ed;have tl:=Gx ds i;have pl:ps.length<=60:=by rw[<-If (f:=(·.1)),fs];omega
   have tok:=Lp hR i (by omega);rw[Bu ed,C9] at hE3;cases dd with
   |come m t=>
    have nf:t.1 ∉ ps.map (·.1.1):=by rw[<-Ql,fs];exact hok.1
    refine⟨_,rfl,r,_,2,_,rfl,rfl,SqT.of r3,Am (j:=2) rfl,?_⟩;refine⟨_,rfl,r,_,0,_,rfl,rfl,SqT.of r3,Am (j:=0) rfl,rfl,_,rfl,Ew ?_⟩;refine⟨_,rfl,_,rfl,r,_,rfl,SqT.of r3,(λq=>absurd (show (2:Nat)=0 from q.1) (by decide)),λp hp=> ?_⟩;have ec:Ee (Dd.come m t).vs (some 2) none=Fj t:=rfl;rw[ec];have s4:=Ac (o:= .tup (Fj t)) hp;have p4:=Ab (H:=H3) (a:=p) (o:= .tup (Fj t));generalize upd H3 p (.tup (Fj t))=H4 at s4 p4;have d4:=s4 _ _ T3.1;refine⟨_,rfl,_,rfl,th,_,rfl,DPut.k (k:=Sum.inr t.1) d4 (Ap (by unfold psK;rw[If];exact le_trans (by assumption) (by decide))),?_⟩;rw[psK_put nf];refine hE3 _ _ ⟨_,_,ps++[(t,p)],rfl,A8 (s3.trans s4) hth,by rw[Ai (Ar (s4 _ _ p3) d4 (by intro z;cases z))];exact s4 _ _ p3,⟨Ab,λq hq=> ?_⟩,by rw[map_append,fs];rfl⟩;rcases mem_append.mp hq with hq|hq
    ·rw[Ai (Ar (s4 _ _ (T3.2 q hq)) d4 (by intro z;cases z))];exact s4 _ _ (T3.2 q hq)
    ·rw[mem_singleton.mp hq,Ai (Ar p4 d4 (by intro z;cases z))];exact p4
   |go m nn=>
    refine⟨_,rfl,r,_,2,_,rfl,rfl,SqT.of r3,Am (j:=2) rfl,?_⟩;refine⟨_,rfl,r,_,0,_,rfl,rfl,SqT.of r3,Am (j:=0) rfl,rfl,_,rfl,C4 ?_⟩;have hin:(Bj (psK ps) (Sum.inr nn)).isSome=true:=by
     rw[val_has,Qa4,<-Ql,fs];exact hok
    refine⟨_,rfl,_,rfl,th,_,Sum.inr nn,rfl,T3.1,rfl,hin,?_⟩;rw[Rs];refine hE3 _ _ ⟨_,_,ps.filter (λp=>decide (p.1.1≠nn)),rfl,A8 s3 hth,by rw[Ai (Ar p3 T3.1 (by intro z;cases z))];exact p3,⟨Ab,λq hq=> ?_⟩,by rw[ps_filt,fs];rfl⟩;rw[Ai (Ar (T3.2 q (mem_filter.mp hq).1) T3.1 (by intro z;cases z))];exact T3.2 q (mem_filter.mp hq).1
  ·intro σ H3 hI2_;refine Ck λG_ hG_=> ?_;obtain⟨x3,x4,ps,rfl,s3,p3,T3,fs⟩:=hI2_;have en:((rs.take n).map V.ref).length=n:=by rw[If,Qb0];omega
   refine hG_ ?_;rw[en] at fs;have tl:=Gx ds n;have pl:ps.length<=60:=by rw[<-If (f:=(·.1)),fs];omega
   refine⟨_,rfl,th,_,rfl,T3.1,λv hv=> ?_⟩;have s4:=Ac (o:= .frz (Srt.viewO th) (.own 0)) hv;have v4:=Ab (H:=H3) (a:=v) (o:= .frz (Srt.viewO th) (.own 0));generalize upd H3 v (.frz (Srt.viewO th) (.own 0))=H4 at s4 v4;have hat:∀q∈ps.map (λp=>((p.2,Et p.1):Srt.Row)),IsTie q.2/\H4 q.1=some (.tup (q.2.map kV)):=λq hq=>by
    obtain⟨p,hp,rfl⟩:=mem_map.mp hq;exact⟨⟨_,rfl⟩,s4 _ _ (T3.2 p hp)⟩
   refine⟨v,th,psK ps,ps.map (λp=>((p.2,Et p.1):Srt.Row)),rfl,v4,s4 _ _ T3.1,?_,⟨λq hq=>SqT.of (hat q hq).2,λq hq q' hq'=> ?_,λq hq=> ?_,by rw[If];exact lt_of_le_of_lt (by assumption) (by decide)⟩,λl ps' hl pp pw=> ?_⟩
   ·unfold psK;rw[map_map,map_map];rfl
   ·obtain⟨⟨t,e⟩,_⟩:=hat q hq;obtain⟨⟨t',e'⟩,_⟩:=hat q' hq';rw[e,e'];rfl
   ·obtain⟨⟨t,e⟩,_⟩:=hat q hq;rw[e];simp[Et]
   have sl:=Ac (o:= .lst (ps'.map Srt.rRef)) hl;have l5:=Ab (H:=H4) (a:=l) (o:= .lst (ps'.map Srt.rRef));generalize upd H4 l (.lst (ps'.map Srt.rRef))=H5 at sl l5;refine⟨l,_,rfl,.inl ⟨SqL.of l5,λst hst=> ?_⟩⟩;have ss:=Ac (o:= .tup (ps'.map Srt.rRef)) hst;have hS:((ps.map (λp=>((p.2,Et p.1):Srt.Row))).map λq=>Ls q.2).Perm (thr (ds.take n)):=by
    rw[map_map,<-fs];refine List.Perm.of_eq (map_congr_left λp _=>Hx p.1)
   obtain⟨x1,x2⟩:=U9 hat hS pp pw (sl.trans ss) Ab;exact k st _ _ (((s3.trans s4).trans sl).trans ss) x1 x2
noncomputable def Ht(S:List T4):Bool:= @decide (Two S) (Classical.propDecidable _)
theorem K5{S:List T4}(h:Two S):Ht S=true:=by unfold Ht;exact @decide_eq_true _ (Classical.propDecidable _) h
theorem Me{S:List T4}(h:¬Two S):Ht S=false:=by unfold Ht;exact @decide_eq_false _ (Classical.propDecidable _) h
theorem Xr{S S':List T4}(h:S.Perm S'):Ht S=Ht S':=by
 by_cases g:Two S
 ·rw[K5 g,K5 (g.mono λt ht=>h.mem_iff.mpr ht)]
 ·rw[Me g,Me λg'=>g (g'.mono λt ht=>h.mem_iff.mp ht)]
theorem srtd_sok{N:Nat}{ds:List Dd}(hR:Db N ds){n:Nat}(hn:n<=ds.length){S:List T4}(h:Srtd S (thr (ds.take n))):SOk N S:=by
 have tk:=Lp hR n hn;refine⟨λt ht=> ?_,?_,λt ht=> ?_,?_⟩
 ·have:=tk.ok t (h.1.mem_iff.mp ht);exact⟨this.1,this.2.1⟩
 ·rw[List.Perm.nodup_iff (h.1.map _)];exact tk.nd
 ·exact(tk.ok t (h.1.mem_iff.mp ht)).2.2
 ·rw[h.1.length_eq];have:=Gx ds n;have:=hR.len;omega
inductive K4(vs:List V)(H:Hp)(Q:VK)(u_3:XK):Prop
 |mk (N:Nat) (st:Addr) (S:List T4):(vs=[.int (N:Int),.ref st])->(StandAt H st S)->(SOk N S)->(N<=30)->(∀H',Same H H'->Q (.bl (Ht S)) H')->K4 vs H Q u_3
def Jn:Sp:=λvs H Q u_3=>K4 vs H Q u_3
theorem Xe:Av ["many","stand"] ["many","stand"] (Ah K3):=⟨rfl,rfl,rfl,by decide+kernel,rfl,by decide+kernel,by decide+kernel⟩
theorem Tk{f:Addr}{fd:FuncData}(F:Fun K "have_two_sides" "have_two_sides" K3 f fd)(T:Txt K mg C I)(GSidesOf:Cl P w K mg base 6 "sides_of" ["many","stand"] Jf):
  FnOk P w K mg base CX0 7 f fd ["many","stand"] Jn:=by
 refine F.ok Xe (λvs H Q E h=> ?_) (λcdv A outer s H vs Q E hr h=> ?_)
 ·obtain⟨_,_,_,rfl,_⟩:=h;rfl
 ·obtain⟨N,st,S,rfl,hst,hS,N30,k⟩:=h;refine⟨_,Ag (As (Cr Bq (Ao At (A7 GSidesOf hr (Aa (pv 0) (Aa (pv 1) Ad))) Af (λ_ _=>rfl)) Bs (Aw _))),?_⟩;refine⟨_,rfl,_,rfl,N,st,S,rfl,hst,hS,N30,λr wa sd xs H1 s1 er ew told=>⟨r,_,0,_,rfl,rfl,SqT.of er,Am (j:=0) rfl,rfl,?_⟩⟩;have e:decide (V.str (wordF sd)=V.str (Str.ofString "sides"))=Ht S:=by
   rcases told with⟨rfl,ns,_,g,_⟩|⟨rfl,ws,_,ring,_⟩
   ·rw[K5 (g.two' hS.inn)];decide+kernel
   ·rw[Me ring.not];decide+kernel
  rw[e];exact k H1 s1
def prV(t:T4):List V:=[.int (t.2.1:Int),.int (t.2.2.1:Int)]
def Prs(H:Hp)(rs:List Addr)(S:List T4):Prop:=rs.length=S.length/\∀(i:Nat) r t,rs[i]? =some r->S[i]? =some t->H r=some (.tup (prV t))
theorem Prs.mono{H H':Hp}{rs:List Addr}{S:List T4}(h:Prs H rs S)(f:∀r xs,H r=some (.tup xs)->H' r=some (.tup xs)):Prs H' rs S:=⟨h.1,λi r k a b=>f _ _ (h.2 i r k a b)⟩
theorem Prs.get{H:Hp}{rs:List Addr}{S:List T4}(h:Prs H rs S){i:Nat}{r:Addr}(hr:rs[i]? =some r):∃k,S[i]? =some k/\H r=some (.tup (prV k)):=by
 have hi:i<S.length:=by rw[<-h.1];exact(List.getElem?_eq_some_iff.mp hr).1
 exact⟨S[i],Cc hi,h.2 i r _ hr (Cc hi)⟩
theorem Prs.snoc{H:Hp}{rs:List Addr}{S:List T4}{r:Addr}{k:T4}(h:Prs H rs S)(hr:H r=some (.tup (prV k))):Prs H (rs++[r]) (S++[k]):=by
 refine⟨by rw[Qa3,Qa3,h.1];rfl,λi r0 p0 e1 e2=> ?_⟩;rw[getElem?_append] at e1 e2;rw[h.1] at e1;split at e1
 ·rename_i c;rw[Qa2 c] at e2;exact h.2 i r0 p0 e1 e2
 ·rename_i c;rw[Qa1 c] at e2;have hz:i - S.length=0:=by
   have:=(List.getElem?_eq_some_iff.mp e1).1;simp only[Qb4,Qe9] at this;omega
  rw[hz] at e1 e2;cases e1;cases e2;exact hr
theorem Mz{S T:List T4}(h:S.Perm T){a b:Nat}:Reach S a b↔Reach T a b:=⟨λr=>r.mono λt ht=>h.mem_iff.mp ht,λr=>r.mono λt ht=>h.mem_iff.mpr ht⟩
theorem in_perm{N:Nat}{S T:List T4}(h:S.Perm T)(hS:InN N S):InN N T:=λt ht=>hS t (h.mem_iff.mpr ht)
theorem Ji{N p:Nat}{S T:List T4}(h:S.Perm T)(hS:InN N S)(hN:N<=60)(hp:p<N):Az N S p=Az N T p:=by
 have hT:=in_perm h hS;unfold Az;refine filter_congr λv hv=> ?_;have h1:=Cp (v:=v) hS hp hN;have h2:=Cp (v:=v) hT hp hN;unfold Az at h1 h2;rw[mem_filter] at h1 h2;rw[Bool.eq_iff_iff];constructor
 ·intro e;obtain⟨a,b⟩:=h1.mp ⟨hv,e⟩;exact(h2.mpr ⟨a,(Mz h).mp b⟩).2
 ·intro e;obtain⟨a,b⟩:=h2.mp ⟨hv,e⟩;exact(h1.mpr ⟨a,(Mz h).mpr b⟩).2
theorem ls_perm{N:Nat}{S T:List T4}(h:S.Perm T)(hS:InN N S)(hN:N<=60):lsF N S=lsF N T:=by
 unfold lsF;refine filter_congr λv hv=> ?_;rw[Ji h hS hN (mem_range.mp hv)]
noncomputable def Pj(N:Nat)(S:List T4):Ak->V
 | .jo _ p q=> .bl (decide (q∈Az N S p))
 | .pa _=> .int ((lsF N S).length:Nat)
 | .si _ p=> .int ((Az N S p).length:Nat)
 | .ev _=> .bl (Ht S)
theorem Yx{N L:Nat}{S T:List T4}(h:S.Perm T)(hS:InN N S)(hN:N<=60){k:Ak}(ok:AkOk N L k):Pj N S k=Pj N T k:=by
 cases k with
 |jo n p q=>unfold Pj;simp only;rw[Ji h hS hN ok.2.1]
 |pa n=>unfold Pj;simp only;rw[ls_perm h hS hN]
 |si n p=>unfold Pj;simp only;rw[Ji h hS hN ok.2]
 |ev n=>unfold Pj;simp only;rw[Xr h]
noncomputable def Iu(N:Nat)(ds:List Dd)(k:Ak):V:=Pj N (thr (ds.take k.n)) k
theorem vs_1(k:Ak):k.vs[1]? =some (.int (k.n:Int)):=by cases k<;> rfl
theorem Pq{N:Nat}{ds:List Dd}(h:Db N ds){n:Nat}(hn:n<=ds.length):InN N (thr (ds.take n)):=λt ht=>let z:=(Lp h n hn).ok t ht;⟨z.1,z.2.1⟩
def spAns:Sp:=λvs H Q _=>∃(N L:Nat) (st r:Addr) (S:List T4) (k:Ak),vs=[.int (N:Int),.ref st,.ref r]/\StandAt H st S/\SOk N S/\N<=30/\H r=some (.tup k.vs)/\AkOk N L k/\∀H',Same H H'->Q (Pj N S k) H'
def Qh:Sp:=λvs H Q _=>∃(h ta:Addr) (N:Nat) (ds:List Dd) (rs:List Addr) (ks:List Ak),vs=[.ref h,.ref ta]/\HistAt H h N ds/\Db N ds/\N<=24/\H ta=some (.tup (rs.map V.ref))/\AksAt H rs ks/\(∀k∈ks,AkOk N ds.length k)/\ks.length<=60/\∀r H',Same H H'->H' r=some (.tup (ks.map (Iu N ds)))->Q (.ref r) H'
theorem scAns:Av ["many","stand","ask","word"] ["many","stand","ask"] (Ah sAns):=⟨rfl,rfl,rfl,by decide+kernel,rfl,by decide+kernel,by decide+kernel⟩
theorem ok_Ans{f:Addr}{fd:FuncData}(F:Fun K "answer_of" "answer_of" sAns f fd)(T:Txt K mg C I)(GJoined:Cl P w K mg base 7 "are_joined" ["many","stand","one","other"] Lf)(GPtsOf:Cl P w K mg base 7 "parts_of" ["many","stand"] Km)(GPart:Cl P w K mg base 7 "part_of" ["many","stand","place"] Lq)(GHaveTwo:Cl P w K mg base 7 "have_two_sides" ["many","stand"] Jn):
  FnOk P w K mg base CX0 8 f fd ["many","stand","ask"] spAns:=by
 refine F.ok scAns (λvs H Q E h=> ?_) (λcdv A outer s H vs Q E hr h=> ?_)
 ·obtain⟨_,_,_,_,_,_,rfl,_⟩:=h;rfl
 ·obtain⟨N,L,st,r,S,kk,rfl,hst,sok,N30,hr1,ok,k⟩:=h;refine⟨_,Ae (Aq (i:=3) scAns.nd rfl (Or.inl rfl) (Ao At (pv 2) Af (λ_ _=>rfl)))
   (Ae (Br (Ax Bq (pv 3) Bs (Aw _)) (Ag (As (A7 GJoined hr (Aa (pv 0) (Aa (pv 1) (Aa (Ao At (pv 2) Af (λ_ _=>rfl)) (Aa (Ao At (pv 2) Af (λ_ _=>rfl)) Ad))))))) Bd)
   (Ae (Br (Ax Bq (pv 3) Bs (Aw _)) (Ag (As (A0 Ay (by rfl) T.len PySem.boot_len (Aa (A7 GPtsOf hr (Aa (pv 0) (Aa (pv 1) Ad))) Ad)))) Bd)
   (Ae (Br (Ax Bq (pv 3) Bs (Aw _)) (Ag (As (A0 Ay (by rfl) T.len PySem.boot_len (Aa (A7 GPart hr (Aa (pv 0) (Aa (pv 1) (Aa (Ao At (pv 2) Af (λ_ _=>rfl)) Ad)))) Ad)))) Bd)
   (Ag (As (A7 GHaveTwo hr (Aa (pv 0) (Aa (pv 1) Ad)))))))),?_⟩
  have Sl:=sok.len;cases kk with
  |jo n p q=>
   refine⟨_,rfl,r,_,0,_,rfl,rfl,SqT.of hr1,Am (j:=0) rfl,?_⟩;refine⟨_,rfl,rfl,_,rfl,Ew ?_⟩;exact⟨_,rfl,_,rfl,_,rfl,r,_,2,_,rfl,rfl,SqT.of hr1,Am (j:=2) rfl,_,rfl,r,_,3,_,rfl,rfl,SqT.of hr1,Am (j:=3) rfl,N,st,S,p,q,rfl,hst,sok.inn,by omega,by omega,ok.2.1,k⟩
  |pa n=>
   refine⟨_,rfl,r,_,0,_,rfl,rfl,SqT.of hr1,Am (j:=0) rfl,?_⟩;refine⟨_,rfl,rfl,_,rfl,C4 ?_⟩;dsimp only[B6];refine⟨_,rfl,rfl,_,rfl,Ew ?_⟩;refine⟨_,rfl,_,rfl,N,st,S,rfl,hst,sok.inn,by omega,by omega,λa as H' s' ha hp=>⟨a,_,rfl,.inr (SqT.of ha),?_⟩⟩;rw[If,hp.1];exact k H' s'
  |si n p=>
   refine⟨_,rfl,r,_,0,_,rfl,rfl,SqT.of hr1,Am (j:=0) rfl,?_⟩;refine⟨_,rfl,rfl,_,rfl,C4 ?_⟩;dsimp only[B6];refine⟨_,rfl,rfl,_,rfl,C4 ?_⟩;dsimp only[B6];refine⟨_,rfl,rfl,_,rfl,Ew ?_⟩;refine⟨_,rfl,_,rfl,_,rfl,r,_,2,_,rfl,rfl,SqT.of hr1,Am (j:=2) rfl,N,st,S,p,rfl,hst,sok.inn,by omega,by omega,ok.2,λa H' s' ha=>⟨a,_,rfl,.inr (SqT.of ha),?_⟩⟩;rw[If,If];exact k H' s'
  |ev n=>
   refine⟨_,rfl,r,_,0,_,rfl,rfl,SqT.of hr1,Am (j:=0) rfl,?_⟩;refine⟨_,rfl,rfl,_,rfl,C4 ?_⟩;dsimp only[B6];refine⟨_,rfl,rfl,_,rfl,C4 ?_⟩;dsimp only[B6];refine⟨_,rfl,rfl,_,rfl,C4 ?_⟩;dsimp only[B6];exact⟨_,rfl,_,rfl,N,st,S,rfl,hst,sok,N30,k⟩
theorem scPlain:Av ["history","asks"] ["history","asks"] (Ah Ov):=⟨rfl,rfl,rfl,by decide+kernel,rfl,by decide+kernel,by decide+kernel⟩
theorem ok_Plain{f:Addr}{fd:FuncData}(F:Fun K "answers_plainly" "answers_plainly" Ov f fd)(T:Txt K mg C I)(GAns:Cl P w K mg base 8 "answer_of" ["many","stand","ask"] spAns)(GStandB:Cl P w K mg base 8 "stand_behind" ["history","n"] K7):
  FnOk P w K mg base CX0 9 f fd ["history","asks"] Qh:=by
 refine F.ok scPlain (λvs H Q E h=> ?_) (λcdv A outer s H vs Q E hr h=> ?_)
 ·obtain⟨_,_,_,_,_,_,rfl,_⟩:=h;rfl
 ·obtain⟨h,ta,N,ds,rs,ks,rfl,hist,hR,N24,hta,hA,ok,k60,k⟩:=h;refine⟨_,Ag (As (Bb Ba (by rfl) T.tuple (by decide+kernel) (Aa (Cg (T:=["ask"]) (F:=["history"]) (js:=[0]) (cs (osc:=Ah Ov)) rfl (Ds (pv 1)) (λ_ _ _ _ _=>Aj (i:=0) (show (["ask","history"]:List Str).Nodup by decide+kernel) rfl (Or.inl rfl)) (λ_ _ _ _ _=>Ce) (λ_ _ _ _ _=>A7 GAns hr (Aa (Ao (r:=Hr K) At (pv 1) Af (λ_ _=>rfl)) (Aa (A7 GStandB hr (Aa (pv 1) (Aa (Ao (r:=Hr K) At (pv 0) Af (λ_ _=>rfl)) Ad))) (Aa (pv 0) Ad))))) Ad))),?_⟩;obtain⟨tp,rs0,eh,et,hdd⟩:=id hist;refine⟨_,rfl,ta,rfl,⟨_,SqT.of hta⟩,λD hD=>Ia (K:=K) (a:=ta) (xs:=rs.map V.ref) (λj σ ys H6=>∃(u:Option V),σ=[u,some (.ref h)]/\ys=(ks.take j).map (Iu N ds)/\Same H H6/\H6 D=some (.lst ys)) ⟨none,rfl,rfl,Ac hD,Ab⟩ (λj σ ys H6 _ ⟨_,_,_,e,f⟩=>⟨SqT.of (e _ _ hta),f⟩) ?_ ?_⟩
  ·rintro j x σ ys H6 hx ⟨u,rfl,rfl,s6,D6⟩;obtain⟨r,hr',rfl⟩:=map_some hx;obtain⟨kk,hk,er⟩:=hA.get hr';have hj:j<ks.length:=(List.getElem?_eq_some_iff.mp hk).1;have okk:=ok kk (mem_of_getElem? hk);have er6:=s6 _ _ er;have tk:(ks.take (j+1)).map (Iu N ds)=(ks.take j).map (Iu N ds)++[Iu N ds kk]:=by rw[Qb2,hk,map_append];rfl
   refine⟨_,rfl,h,_,0,_,rfl,rfl,SqT.of (s6 _ _ eh),Am (j:=0) rfl,_,rfl,_,rfl,r,_,1,_,rfl,rfl,SqT.of er6,Am (j:=1) (vs_1 kk),h,N,ds,kk.n,rfl,hist.same s6,hR,okk.le,λst S H7 s7 hst srt=> ?_⟩;have sok:=srtd_sok hR okk.le srt;refine⟨_,rfl,N,ds.length,st,r,S,kk,rfl,hst,sok,by omega,s7 _ _ er6,okk,λH8 s8=> ?_⟩;rw[Yx srt.1 sok.inn (by omega) okk];refine⟨s8 _ _ (s7 _ _ D6),Ap (by rw[If,Qb0];omega),_,rfl,tk.symm,A8 ((s6.trans s7).trans s8) hD,Ab⟩
  rintro σ ys H6 ⟨u,rfl,rfl,s6,D6⟩;rw[If,hA.1,Qb8] at D6;exact⟨D,_,rfl,.inl ⟨SqL.of D6,λz hz=>k z _ (s6.trans (Ac hz)) Ab⟩⟩
def V3(K:Frag):Sp:=λvs H Q _=>∃(s:Addr) (ns:List Int),vs=[.ref s]/\SqL K H s (ns.map V.int)/\ns.length<=63/\∀H',Q (.bl true) H'
end K29
namespace K29
variable{P:Program}{w:World}{K:Frag}{mg:Str->Option Value}{base:Heap}{C I:Addr}
open PySem L2 Wk M24
def PrI(H:Hp):List Addr->List (Int×Int)->Prop
 |[],[]=>True
 |r::rs,x::xs=>H r=some (.tup [.int x.1,.int x.2])/\PrI H rs xs
 |_,_=>False
theorem PrI.same{H H':Hp}(e:Same H H'):∀{rs:List Addr} {xs:List (Int×Int)},PrI H rs xs->PrI H' rs xs
 |[],[],_=>trivial
 |r::rs,x::xs,h=>⟨e _ _ h.1,PrI.same e h.2⟩
theorem PrI.app{H:Hp}:∀{rs rs':List Addr} {xs ys:List (Int×Int)},PrI H rs xs->PrI H rs' ys->PrI H (rs++rs') (xs++ys)
 |[],_,[],_,_,h=>h
 |r::rs,_,x::xs,_,h,h'=>⟨h.1,PrI.app h.2 h'⟩
theorem PrI.len{H:Hp}:∀{rs:List Addr} {xs:List (Int×Int)},PrI H rs xs->rs.length=xs.length
 |[],[],_=>rfl
 |r::rs,x::xs,h=>by simp[PrI.len h.2]
theorem PrI.get{H:Hp}:∀{rs:List Addr} {xs:List (Int×Int)} {i:Nat} {r:Addr},PrI H rs xs->rs[i]? =some r->∃x,xs[i]? =some x/\H r=some (.tup [.int x.1,.int x.2])
 |[],[],i,r,_,e=>by simp at e
 |r'::rs,x::xs,0,r,h,e=>by simp at e;subst e;exact⟨x,rfl,h.1⟩
 |r'::rs,x::xs,i+1,r,h,e=>by
  obtain⟨y,h1,h2⟩:=PrI.get (i:=i) h.2 (by simpa using e);exact⟨y,by simpa using h1,h2⟩
theorem PrI.one{H:Hp}{r:Addr}{a b:Int}(h:H r=some (.tup [.int a,.int b])):PrI H [r] [(a,b)]:=⟨h,trivial⟩
theorem Vt{t u:TT}{σ:St}{H:Hp}{Q:Bool->Hp->Prop}(x y:Bool)(h1:∀Q':Bool->Hp->Prop,Q' x H->t σ H Q')(h2:∀Q':Bool->Hp->Prop,Q' y H->u σ H Q')(h:Q (x && y) H):tAnd t u σ H Q:=by
 refine h1 _ ?_;cases x with
 |true=>exact Ew (h2 _ h)
 |false=>exact C4 h
theorem tOr_of{t u:TT}{σ:St}{H:Hp}{Q:Bool->Hp->Prop}(x y:Bool)(h1:∀Q':Bool->Hp->Prop,Q' x H->t σ H Q')(h2:∀Q':Bool->Hp->Prop,Q' y H->u σ H Q')(h:Q (x||y) H):tOr t u σ H Q:=by
 refine h1 _ ?_;cases x with
 |true=>exact Ew h
 |false=>exact C4 (h2 _ h)
def spPin(n:Nat):Sp:=λvs H Q _=>∃(f l lo hi:Int),vs=[.int f,.int l,.int lo,.int hi]/\f<l/\l - f<=2 ^ n/\n<=6/\
 ∀(a:Addr) (rs:List Addr) (H':Hp),Same H H'->H a=none->H' a=some (.lst (rs.map V.ref))->PrI H' rs (pin n f l lo hi)->Q (.ref a) H'
def spPo:Sp:=λvs H Q _=>∃(sz lo hi:Int),vs=[.int sz,.int lo,.int hi]/\0<sz/\sz<=64/\
 ∀(a:Addr) (rs:List Addr) (H':Hp),Same H H'->H' a=some (.tup (rs.map V.ref))->PrI H' rs (pin 6 0 sz lo hi)->Q (.ref a) H'
theorem scPin:Av ["first","last","low","high","middle"] ["first","last","low","high"] (Ah sPin):=⟨rfl,rfl,rfl,by decide+kernel,rfl,by decide+kernel,by decide+kernel⟩
theorem ok_pin{f:Addr}{fd:FuncData}(F:Fun K "pieces_in" "pieces_in" sPin f fd)(b:Binds K fd ["first","last","low","high"] [])(hm:mg "pieces_in"=some (.ref f)):
  ∀n,FnOk P w K mg base CX0 (n+1) f fd ["first","last","low","high"] (spPin n):=by
 intro n
 induction n with
 |zero=>
  refine F.ok scPin (λvs H Q E h=> ?_) (λcdv A outer s H vs Q E hr h=> ?_)
  ·obtain⟨_,_,_,_,rfl,_⟩:=h;rfl
  ·obtain⟨f',l,lo,hi,rfl,h1,h2,h3,k⟩:=h;have h2:l - f'<=1:=h2;refine⟨_,Ae (Br (PW.pt (Hd (Ax G0 (pv 2) (pv 0) (Aw _)) (Fm (Ax G0 (pv 1) (pv 3) (Aw _))))) (Ag (As (Bh (Aa (A1 (Aa (pv 0) (Aa (pv 1) Ad))) Ad)))) Bd)
    (Ae (Br (PW.pt (Rw (Ax G0 (pv 1) (pv 2) (Aw _)) (Lw (Ax G0 (pv 3) (pv 0) (Aw _))))) (Ag (As (Bh Ad))) Bd) Yo),?_⟩
   refine Vt (decide (lo<=f')) (decide (l<=hi)) (λQ' q=>⟨_,rfl,_,rfl,_,_,rfl,rfl,_,rfl,q⟩) (λQ' q=>⟨_,rfl,_,rfl,_,_,rfl,rfl,_,rfl,q⟩) ?_;refine B7 (λc=> ?_) (λc=> ?_)
   ·have c:lo<=f'/\l<=hi:=by simpa using c
    refine⟨_,rfl,_,rfl,small (by simp),λt ht=>⟨small (by simp),λa ha=> ?_⟩⟩;have ha':H a=none:=(Ac ht).free ha;refine k a [t] _ ((Ac ht).trans (Ac ha)) ha' Ab ?_;have e:pin 0 f' l lo hi=[(f',l)]:=by rw[pin,Qa2 c]
    rw[e];exact PrI.one (Ac ha _ _ Ab)
   ·have c:¬(lo<=f'/\l<=hi):=by simpa using c
    dsimp only[B6];refine tOr_of (decide (l<=lo)) (decide (hi<=f')) (λQ' q=>⟨_,rfl,_,rfl,_,_,rfl,rfl,_,rfl,q⟩) (λQ' q=>⟨_,rfl,_,rfl,_,_,rfl,rfl,_,rfl,q⟩) ?_;refine B7 (λd=> ?_) (λd=> ?_)
    ·refine⟨small (by simp),λa ha=> ?_⟩;have e:pin 0 f' l lo hi=[]:=by rw[pin,Qa1 c]
     exact k a [] _ (Ac ha) ha Ab (by rw[e];trivial)
    ·have d:¬(l<=lo\/hi<=f'):=by simpa using d
     omega
 |succ n ih=>
  refine F.ok scPin (λvs H Q E h=> ?_) (λcdv A outer s H vs Q E hr h=> ?_)
  ·obtain⟨_,_,_,_,rfl,_⟩:=h;rfl
  ·obtain⟨f',l,lo,hi,rfl,h1,h2,h3,k⟩:=h;have h2:l - f'<=2 * 2 ^ n:=by rw[pow_succ] at h2;omega
   refine⟨_,Ae (Br (PW.pt (Hd (Ax G0 (pv 2) (pv 0) (Aw _)) (Fm (Ax G0 (pv 1) (pv 3) (Aw _))))) (Ag (As (Bh (Aa (A1 (Aa (pv 0) (Aa (pv 1) Ad))) Ad)))) Bd)
    (Ae (Br (PW.pt (Rw (Ax G0 (pv 1) (pv 2) (Aw _)) (Lw (Ax G0 (pv 3) (pv 0) (Aw _))))) (Ag (As (Bh Ad))) Bd)
    (Ae (Aq (i:=4) scPin.nd rfl (Or.inl rfl) (Au Gr (Au Bi (pv 0) (pv 1)) Af))
    (Ag (As (Au P0 (Go ih hr rfl hm F.kp b .nil C7 (Aa (pv 0) (Aa (pv 4) (Aa (pv 2) (Aa (pv 3) Ad)))))
     (Go ih hr rfl hm F.kp b .nil C7 (Aa (pv 4) (Aa (pv 1) (Aa (pv 2) (Aa (pv 3) Ad)))))))))),?_⟩
   refine Vt (decide (lo<=f')) (decide (l<=hi)) (λQ' q=>⟨_,rfl,_,rfl,_,_,rfl,rfl,_,rfl,q⟩) (λQ' q=>⟨_,rfl,_,rfl,_,_,rfl,rfl,_,rfl,q⟩) ?_;refine B7 (λc=> ?_) (λc=> ?_)
   ·have c:lo<=f'/\l<=hi:=by simpa using c
    refine⟨_,rfl,_,rfl,small (by simp),λt ht=>⟨small (by simp),λa ha=> ?_⟩⟩;have ha':H a=none:=(Ac ht).free ha;refine k a [t] _ ((Ac ht).trans (Ac ha)) ha' Ab ?_;have e:pin (n+1) f' l lo hi=[(f',l)]:=by rw[pin,Qa2 c]
    rw[e];exact PrI.one (Ac ha _ _ Ab)
   ·have c:¬(lo<=f'/\l<=hi):=by simpa using c
    dsimp only[B6];refine tOr_of (decide (l<=lo)) (decide (hi<=f')) (λQ' q=>⟨_,rfl,_,rfl,_,_,rfl,rfl,_,rfl,q⟩) (λQ' q=>⟨_,rfl,_,rfl,_,_,rfl,rfl,_,rfl,q⟩) ?_;refine B7 (λd=> ?_) (λd=> ?_)
    ·have d:l<=lo\/hi<=f':=by simpa using d
     refine⟨small (by simp),λa ha=> ?_⟩;have e:pin (n+1) f' l lo hi=[]:=by rw[pin,Qa1 c,Qa2 d]
     exact k a [] _ (Ac ha) ha Ab (by rw[e];trivial)
    ·have d:¬(l<=lo\/hi<=f'):=by simpa using d
     have e:pin (n+1) f' l lo hi=pin n f' ((f'+l) / 2) lo hi++pin n ((f'+l) / 2) l lo hi:=by rw[pin,Qa1 c,Qa1 d]
     dsimp only[B6];refine⟨_,rfl,_,rfl,_,_,rfl,rfl,_,_,rfl,rfl,⟨by decide,by decide⟩,?_⟩;have hp:(1:Int)<=2 ^ n:=by
      have:=Int.pow_pos (n:=2) (m:=n) (by decide);omega
     refine⟨_,rfl,_,rfl,_,rfl,_,rfl,_,_,_,_,rfl,by omega,by omega,by omega,λa1 rs1 H1 s1 n1 l1 p1=> ?_⟩;refine⟨_,rfl,_,rfl,_,rfl,_,rfl,_,_,_,_,rfl,by omega,by omega,by omega,λa2 rs2 H2 s2 n2 l2 p2=> ?_⟩;have q1:=p1.len;have q2:=p2.len;have m1:=Id n f' ((f'+l) / 2) lo hi;have m2:=Id n ((f'+l) / 2) l lo hi;have m3:2 ^ n<=2 ^ 6:=Nat.pow_le_pow_right (by decide) (by omega);refine⟨a1,a2,_,_,rfl,rfl,s2 _ _ l1,l2,small (by simp;omega),λa ha=> ?_⟩;have s3:=(s1.trans s2).trans (Ac (o:= .lst (rs1.map V.ref++rs2.map V.ref)) ha);refine k a (rs1++rs2) _ s3 ((s1.trans s2).free ha) (by rw[Ab,map_append]) ?_;rw[e];exact((p1.same s2).app p2).same (Ac ha)
def toD:Dd->Deed
 | .come m t=> .come m t.1 (t.2.1:Int) (t.2.2.1:Int) t.2.2.2
 | .go m n=> .go m n
theorem toD_vs(d:Dd):(toD d).vs=d.vs:=by cases d<;> rfl
def Life.t4(l:Life):T4:=(l.n,l.a.toNat,l.b.toNat,l.w)
theorem Fp{ds:List Dd}{i:Nat}{d:Dd}(h:ds[i]? =some d):(ds.map toD)[i]? =some (toD d):=by rw[getElem?_map,h];rfl
theorem La{ds:List Dd}(n:Str):∀i,i<=ds.length->(Dj ((ds.map toD).take i).reverse n=true↔n∈(thr (ds.take i)).map (·.1))
 |0,_=>by simp[thr,Dj]
 |i+1,hi=>by
  have e:=Cc (l:=ds) (i:=i) (by omega);have ih:=La (ds:=ds) n i (by omega);rw[Bu (Fp e),Bu e,C9,List.reverse_append];cases hd:ds[i] with
  |come m t=>
   show Dj (Deed.come m t.1 _ _ _::_) n=true↔_;unfold Dj;show _↔n∈(thr (ds.take i)++[t]).map (·.1);rw[map_append,mem_append,<-ih];by_cases q:t.1=n
   ·simp[q]
   ·simp[q];intro z;exact absurd z.symm q
  |go m k=>
   show Dj (Deed.go m k::_) n=true↔_;unfold Dj;show _↔n∈((thr (ds.take i)).filter λt=>decide (t.1≠k)).map (·.1);rw[Ho,mem_filter,<-ih];by_cases q:k=n
   ·simp[q]
   ·have:n≠k:=λz=>q z.symm;simp[q,this]
theorem rightN{N:Nat}{ds:List Dd}(h:Db N ds):Jr (ds.map toD):=by
 intro i d hd;rw[getElem?_map] at hd;cases e:ds[i]? with
 |none=>rw[e] at hd;cases hd
 |some d0=>
  rw[e] at hd;have hi:i<ds.length:=(List.getElem?_eq_some_iff.mp e).1;cases Option.some.inj hd;have ok:=h.ok i d0 e;cases d0 with
  |come m t=>
   show Dj _ t.1=false;cases z:Dj ((ds.map toD).take i).reverse t.1 with
   |false=>rfl
   |true=>exact absurd ((La t.1 i (by omega)).mp z) ok.1
  |go m n=>exact(La n i (by omega)).mpr ok
theorem Om{ds:List Dd}:∀i,i<=ds.length->(Ca (ds.map toD) i).map Life.t4=thr (ds.take i)
 |0,_=>by simp[Ca,Be,thr]
 |i+1,hi=>by
  have e:=Cc (l:=ds) (i:=i) (by omega);have ih:=Om (ds:=ds) i (by omega);have em:=Fp e;rw[Bu e,C9];cases hd:ds[i] with
  |come m t=>
   rw[hd] at em;rw[Ff em,map_append,ih];rfl
  |go m k=>
   rw[hd] at em;rw[Ig em];show _=(thr (ds.take i)).filter λt=>decide (t.1≠k);rw[<-ih,List.filter_map];rfl
def pth:Nat->Int->Int->Int->List (Int×Int)
 |0,f,l,_=>[(f,l)]
 |d+1,f,l,n=>(f,l)::if l - f=1 then [] else if n<(f+l) / 2 then pth d f ((f+l) / 2) n else pth d ((f+l) / 2) l n
theorem Fz:∀(d:Nat) (f l n:Int),f<=n->n<l->∀x∈pth d f l n,f<=x.1/\x.1<=n/\n<x.2/\x.2<=l
 |0,f,l,n,h1,h2,x,hx=>by
  cases mem_singleton.mp hx;exact⟨Int.le_refl _,h1,h2,Int.le_refl _⟩
 |d+1,f,l,n,h1,h2,x,hx=>by
  unfold pth at hx;rcases Qa6.mp hx with rfl|hx
  ·exact⟨Int.le_refl _,h1,h2,Int.le_refl _⟩
  ·by_cases e:l - f=1
   ·rw[Qa2 e] at hx;cases hx
   ·rw[Qa1 e] at hx;by_cases c:n<(f+l) / 2
    ·rw[Qa2 c] at hx;have:=Fz d f _ n h1 c x hx;omega
    ·rw[Qa1 c] at hx;have:=Fz d _ l n (by omega) h2 x hx;omega
theorem Sq(d:Nat)(f l n:Int):(f,l)∈pth d f l n:=by
 cases d with
 |zero=>exact mem_singleton.mpr rfl
 |succ d=>exact Qa9
theorem Po:∀(d:Nat) (f l lo hi n:Int),f<l->l - f<=2 ^ d->f<=n->n<l->((∃x∈pin d f l lo hi,x∈pth d f l n)↔lo<=n/\n<hi)
 |0,f,l,lo,hi,n,h1,h2,h3,h4=>by
  have h2:l - f<=1:=h2;unfold pin;by_cases c:lo<=f/\l<=hi
  ·rw[Qa2 c];exact⟨λ_=>by omega,λ_=>⟨_,mem_singleton.mpr rfl,Sq _ _ _ _⟩⟩
  ·rw[Qa1 c];exact⟨λ⟨x,hx,_⟩=>by(cases hx),λz=>by omega⟩
 |d+1,f,l,lo,hi,n,h1,h2,h3,h4=>by
  unfold pin;by_cases c:lo<=f/\l<=hi
  ·rw[Qa2 c];exact⟨λ_=>by omega,λ_=>⟨_,mem_singleton.mpr rfl,Sq _ _ _ _⟩⟩
  ·rw[Qa1 c];by_cases c2:l<=lo\/hi<=f
   ·rw[Qa2 c2];exact⟨λ⟨x,hx,_⟩=>by(cases hx),λz=>by omega⟩
   ·rw[Qa1 c2];have e1:¬l - f=1:=by omega
    have p2:(2:Int) ^ (d+1)=2 * 2 ^ d:=by rw[pow_succ];omega
    rw[p2] at h2;have ih1:=Po d f ((f+l) / 2) lo hi n (by omega) (by omega);have ih2:=Po d ((f+l) / 2) l lo hi n (by omega) (by omega);have i1:=Jh d f ((f+l) / 2) lo hi (by omega) (by omega);have i2:=Jh d ((f+l) / 2) l lo hi (by omega) (by omega);unfold pth;rw[Qa1 e1];by_cases c3:n<(f+l) / 2
    ·rw[Qa2 c3,<-ih1 h3 c3];constructor
     ·rintro⟨x,hx,hp⟩;rcases mem_append.mp hx with hx|hx
      ·rcases Qa6.mp hp with rfl|hp
       ·have:=i1 _ hx;simp only at this;omega
       ·exact⟨x,hx,hp⟩
      ·rcases Qa6.mp hp with rfl|hp
       ·have:=i2 _ hx;simp only at this;omega
       ·have:=i2 _ hx;have:=Fz d _ _ _ h3 c3 _ hp;omega
     ·rintro⟨x,hx,hp⟩;exact⟨x,mem_append.mpr (.inl hx),Qa8 _ hp⟩
    ·rw[Qa1 c3,<-ih2 (by omega) h4];constructor
     ·rintro⟨x,hx,hp⟩;rcases mem_append.mp hx with hx|hx
      ·rcases Qa6.mp hp with rfl|hp
       ·have:=i1 _ hx;simp only at this;omega
       ·have:=i1 _ hx;have:=Fz d _ _ _ (Int.not_lt.mp c3) h4 _ hp;omega
      ·rcases Qa6.mp hp with rfl|hp
       ·have:=i2 _ hx;simp only at this;omega
       ·exact⟨x,hx,hp⟩
     ·rintro⟨x,hx,hp⟩;exact⟨x,mem_append.mpr (.inr hx),Qa8 _ hp⟩
def Eu(sz:Int)(l:Life):List (Int×Int):=pin 6 0 sz ((l.s:Int)+1) ((l.e:Int)+1)
def Dr(sz:Int)(L:List Life)(x:Int×Int):List T4:=L.flatMap λl=>((Eu sz l).filter λy=>decide (y=x)).map λ_=>l.t4
theorem mem_laid{sz:Int}{L:List Life}{x:Int×Int}{t:T4}:t∈Dr sz L x↔∃l∈L,x∈Eu sz l/\l.t4=t:=by
 unfold Dr;rw[mem_flatMap];constructor
 ·rintro⟨l,hl,h⟩;obtain⟨y,hy,e⟩:=mem_map.mp h;obtain⟨h1,h2⟩:=mem_filter.mp hy;rw[Qa4] at h2;exact⟨l,hl,h2▸h1,e⟩
 ·rintro⟨l,hl,h,e⟩;exact⟨l,hl,mem_map.mpr ⟨x,mem_filter.mpr ⟨h,decide_eq_true rfl⟩,e⟩⟩
theorem Yj{ds:List Dd}{n:Nat}(hn:n<=ds.length)(h60:ds.length<=60)(t:T4):
  t∈(pth 6 0 ((ds.length:Int)+1) (n:Int)).flatMap (Dr ((ds.length:Int)+1) (Be (ds.map toD) (ds.map toD).length))↔t∈thr (ds.take n):=by
 rw[<-Om n hn,<-Rj (ds.map toD) (i:=n) (by rw[If];exact hn),mem_flatMap,mem_map];have key:=λl:Life=>Po 6 0 ((ds.length:Int)+1) ((l.s:Int)+1) ((l.e:Int)+1) (n:Int) (by omega) (by omega) (by omega) (by omega);constructor
 ·rintro⟨x,hx,ht⟩;obtain⟨l,hl,h1,h2⟩:=mem_laid.mp ht;have:=(key l).mp ⟨x,h1,hx⟩;refine⟨l,mem_filter.mpr ⟨hl,?_⟩,h2⟩;rw[Qf6,Qa4,Qa4];omega
 ·rintro⟨l,hl,h2⟩;obtain⟨hl,h3⟩:=mem_filter.mp hl;rw[Qf6,Qa4,Qa4] at h3;obtain⟨x,h1,hx⟩:=(key l).mpr (by omega);exact⟨x,hx,mem_laid.mpr ⟨l,hl,h1,h2⟩⟩
def Uf(st:S3):Ak->V
 | .jo _ p q=> .bl (decide (V.int (st.tops.getD p 0)=V.int (st.tops.getD q 0)))
 | .pa _=> .int (Hj st.tops:Nat)
 | .si _ p=> .int (st.tops.count (st.tops.getD p 0):Nat)
 | .ev _=> .bl (decide (V.int st.odds=V.int 0))
theorem ans_uf{N L:Nat}{P S:List T4}{st:S3}(U:UF N P st)(hm:∀u,u∈P↔u∈S)(hN:N<=60){k:Ak}(ok:AkOk N L k):Uf st k=Pj N S k:=by
 cases k with
 |jo n p q=>
  show V.bl _=V.bl _;have:=U.joined hm ok.2.1 ok.2.2 hN
  congr 1
  rw[Bool.eq_iff_iff,Qa4,Qa4,<-this];unfold tau;exact⟨λz=>by injection z,λz=>by rw[z]⟩
 |pa n=>
  show V.int _=V.int _;rw[U.parts hm hN]
 |si n p=>
  show V.int _=V.int _;rw[<-U.size hm ok.2 hN];rfl
 |ev n=>
  show V.bl _=V.bl _
  congr 1
  have h2:Two P↔Two S:=⟨λh=>h.mono λt=>(hm t).mpr,λh=>h.mono λt=>(hm t).mp⟩
  by_cases z:Two S
  ·rw[K5 z,Qa4,U.two.mpr (h2.mpr z)]
  ·rw[Me z,Qd7];intro q;exact z (h2.mp (U.two.mp (by injection q)))
def Dm(st:S3)(lo:Int)(ks:List Ak):List (Int×V):=(ks.zipIdx.filter λp=>decide ((p.1.n:Int)=lo)).map λp=>((p.2:Int),Uf st p.1)
theorem N5{st:S3}{lo:Int}{ks:List Ak}{i:Nat}{k:Ak}(h:ks[i]? =some k):Dm st lo (ks.take (i+1))=Dm st lo (ks.take i)++(if (k.n:Int)=lo then [((i:Int),Uf st k)] else []):=by
 have li:i<ks.length:=(List.getElem?_eq_some_iff.mp h).1;unfold Dm;rw[Bu h,List.zipIdx_append,filter_append,map_append]
 congr 1
 have:(ks.take i).length=i:=by rw[Qb0];omega
 rw[this];by_cases c:(k.n:Int)=lo
 ·simp[c]
 ·simp[c]
def Dp(N:Nat)(F:Int×Int->List T4)(ks:List Ak):Nat->Int->Int->List T4->List (Int×V)
 |0,lo,hi,Q=>Dm (stF N (Q++F (lo,hi))) lo ks
 |d+1,lo,hi,Q=>if hi - lo=1 then Dm (stF N (Q++F (lo,hi))) lo ks else Dp N F ks d lo ((lo+hi) / 2) (Q++F (lo,hi))++Dp N F ks d ((lo+hi) / 2) hi (Q++F (lo,hi))
theorem mem_ri{a b n:Int}:n∈ri a b↔a<=n/\n<b:=by
 unfold ri;rw[mem_map];constructor
 ·rintro⟨k,hk,rfl⟩;have:=mem_range.mp hk;omega
 ·rintro⟨h1,h2⟩;exact⟨(n - a).toNat,mem_range.mpr (by omega),by omega⟩
theorem ri_one(a:Int):ri a (a+1)=[a]:=by
 unfold ri;have:(a+1 - a).toNat=1:=by omega
 rw[this];simp
theorem Eb{α β:Type}{f g:α->List β}:∀{l:List α},(∀x∈l,f x=g x)->l.flatMap f=l.flatMap g
 |[],_=>rfl
 |x::l,h=>by rw[Qb7,Qb7,h x Qa9,Eb λy hy=>h y (Qa8 _ hy)]
theorem Hz{N:Nat}{F:Int×Int->List T4}{ks:List Ak}:∀(d:Nat) (lo hi:Int) (Q:List T4),lo<hi->hi - lo<=2 ^ d->
  Dp N F ks d lo hi Q=(ri lo hi).flatMap λn=>Dm (stF N (Q++(pth d lo hi n).flatMap F)) n ks
 |0,lo,hi,Q,h1,h2=>by
  have h2:hi - lo<=1:=h2;obtain rfl:hi=lo+1:=by omega
  rw[ri_one];simp[Dp,pth]
 |d+1,lo,hi,Q,h1,h2=>by
  have p2:(2:Int) ^ (d+1)=2 * 2 ^ d:=by rw[pow_succ];omega
  rw[p2] at h2;unfold Dp;by_cases e:hi - lo=1
  ·obtain rfl:hi=lo+1:=by omega
   rw[Qa2 e,ri_one,Qb7,List.flatMap_nil,Qc9]
   conv=>rhs;unfold pth
   rw[Qa2 e,Qb7,List.flatMap_nil,Qc9]
  ·rw[Qa1 e,Hz d lo _ _ (by omega) (by omega),Hz d _ hi _ (by omega) (by omega),<-ri_cat (a:=lo) (b:=(lo+hi) / 2) (c:=hi) (by omega) (by omega),flatMap_append]
   congr 1
   ·refine Eb λn hn=> ?_;have:=mem_ri.mp hn
    conv=>rhs;unfold pth
    rw[Qa1 e,Qa2 this.2,Qb7,append_assoc]
   ·refine Eb λn hn=> ?_;have:=mem_ri.mp hn
    conv=>rhs;unfold pth
    rw[Qa1 e,Qa1 (by omega),Qb7,append_assoc]
theorem K1{α:Type}{f:α->Int}:∀{L:List Int},L.Nodup->∀{E:List α},(∀e∈E,f e∈L)->(L.flatMap λn=>E.filter λe=>decide (f e=n)).Perm E
 |[],_,E,h=>by
  cases E with
  |nil=>exact .nil
  |cons e E=>exact absurd (h e Qa9) (by simp)
 |n::L,nd,E,h=>by
  rw[Qb7];obtain⟨n1,n2⟩:=Qd3.mp nd;have ih:=K1 n2 (E:=E.filter λe=> !decide (f e=n)) λe he=>by
   obtain⟨a,b⟩:=mem_filter.mp he;rcases Qa6.mp (h e a) with z|z
   ·rw[z] at b;simp at b
   ·exact z
  have e2:(L.flatMap λm=>(E.filter λe=> !decide (f e=n)).filter λe=>decide (f e=m))=L.flatMap λm=>E.filter λe=>decide (f e=m):=by
   refine Eb λm hm=> ?_;rw[List.filter_filter];refine filter_congr λe _=> ?_;by_cases z:f e=m
   ·have:¬m=n:=λq=>n1 (q▸hm);simp[z,this]
   ·simp[z]
  rw[e2] at ih;exact(List.Perm.append_left _ ih).trans (List.filter_append_perm _ _)
theorem Y8(a b:Int):(ri a b).Nodup:=by
 unfold ri;refine Qc4.mpr ((List.nodup_range (n:=(b - a).toNat)).imp λ{x y} h e=>h (by omega))
def Gz(f:Ak->V)(ks:List Ak):List (Int×V):=ks.zipIdx.map λp=>((p.2:Int),f p.1)
theorem Wo{N:Nat}{ds:List Dd}(hR:Db N ds)(hN:N<=24){ks:List Ak}(ok:∀k∈ks,AkOk N ds.length k):
  (Dp N (Dr ((ds.length:Int)+1) (Be (ds.map toD) (ds.map toD).length)) ks 6 0 ((ds.length:Int)+1) []).Perm (Gz (Iu N ds) ks):=by
 have h60:=hR.len;rw[Hz 6 _ _ _ (by omega) (by omega)];have e:((ri 0 ((ds.length:Int)+1)).flatMap λn=>Dm (stF N ([]++(pth 6 0 ((ds.length:Int)+1) n).flatMap (Dr ((ds.length:Int)+1) (Be (ds.map toD) (ds.map toD).length)))) n ks)
   =((ri 0 ((ds.length:Int)+1)).flatMap λn=>ks.zipIdx.filter λp=>decide ((p.1.n:Int)=n)).map λp=>((p.2:Int),Iu N ds p.1):=by
  rw[List.map_flatMap];refine Eb λn hn=> ?_;obtain⟨n0,n1⟩:=mem_ri.mp hn;obtain⟨m,rfl⟩:∃m:Nat,n=(m:Int):=⟨n.toNat,by omega⟩
  have hm:m<=ds.length:=by omega
  have mem:=λt=>Yj (ds:=ds) hm h60 t;have inn:InN N ((pth 6 0 ((ds.length:Int)+1) (m:Int)).flatMap (Dr ((ds.length:Int)+1) (Be (ds.map toD) (ds.map toD).length))):=λt ht=>Pq hR hm t ((mem t).mp ht);unfold Dm;rw[nil_append];refine map_congr_left λp hp=> ?_;obtain⟨hp1,hp2⟩:=mem_filter.mp hp;rw[Qa4] at hp2;have hk:p.1∈ks:=by
   obtain⟨k,i⟩:=p;exact(List.mem_zipIdx hp1).2.2▸getElem_mem _
  congr 1
  rw[ans_uf (Th hN inn) mem (by omega) (ok _ hk)];unfold Iu
  congr 3
  omega
 rw[e];unfold Gz;refine List.Perm.map _ (K1 (f:=λp:Ak×Nat=>((p.1.n:Nat):Int)) (Y8 _ _) λp hp=> ?_);have hk:p.1∈ks:=by
  obtain⟨k,i⟩:=p;exact(List.mem_zipIdx hp).2.2▸getElem_mem _
 have:=(ok _ hk).le;exact mem_ri.mpr ⟨by omega,by omega⟩
theorem Re(f:Ak->V)(ks:List Ak):(Gz f ks).map (·.1)=(List.range ks.length).map ofNat:=by
 unfold Gz;rw[map_map];refine ext_getElem? λi=> ?_;rw[getElem?_map,getElem?_map,List.getElem?_zipIdx];by_cases h:i<ks.length
 ·simp[h]
 ·simp[le_of_not_lt h]
theorem due_vals(f:Ak->V)(ks:List Ak):(Gz f ks).map (·.2)=ks.map f:=by
 unfold Gz;rw[map_map];refine ext_getElem? λi=> ?_;rw[getElem?_map,getElem?_map,List.getElem?_zipIdx];cases ks[i]? <;> simp
theorem Ln(f:Ak->V)(ks:List Ak):((Gz f ks).map (·.1)).Nodup:=by
 rw[Re];exact Qc4.mpr ((List.nodup_range (n:=ks.length)).imp λ{x y} h e=>h (ofNat.inj e))
theorem U8{f:Ak->V}{ks:List Ak}{l:List (Int×V)}(p:l.Perm (Gz f ks))(s:l.Pairwise λa b=>a.1<=b.1):l.map (·.2)=ks.map f:=by
 have e:l=Gz f ks:=by
  have nd:=Ln f ks;have s2:(Gz f ks).Pairwise λa b=>a.1<=b.1:=by
   have:((Gz f ks).map (·.1)).Pairwise (·<=·):=by
    rw[Re,Qc4];exact List.pairwise_le_range.imp λh=>by simpa using h
   rw[Qc4] at this;exact this
  refine List.Perm.eq_of_pairwise (le:=λa b=>a.1<=b.1) (λa b ha hb h1 h2=> ?_) s s2 p;have ha:=p.mem_iff.mp ha;obtain⟨i,hi,rfl⟩:=getElem_of_mem ha;obtain⟨j,hj,rfl⟩:=getElem_of_mem hb;have q:(Gz f ks)[i].1=(Gz f ks)[j].1:=by omega
  have pw:=Qe5.mp nd;rcases Nat.lt_trichotomy i j with z|z|z
  ·exact absurd (by rw[getElem_map,getElem_map];exact q) (pw i j (by simpa using hi) (by simpa using hj) z)
  ·subst z;rfl
  ·exact absurd (by rw[getElem_map,getElem_map];exact q.symm) (pw j i (by simpa using hj) (by simpa using hi) z)
 rw[e,due_vals]
end K29
namespace K29
variable{P:Program}{w:World}{K:Frag}{mg:Str->Option Value}{base:Heap}{C I:Addr}
open PySem L2 Wk
def spAby(C:Addr):Sp:=λvs H Q _=>∃(x S r:Addr) (pre:List S3) (st:S3) (N L:Nat) (k:Ak),vs=[.ref x,.ref r]/\TkAt C H x S (pre++[st])/\Ok N st/\H r=some (.tup k.vs)/\AkOk N L k/\∀H',Same H H'->Q (Uf st k) H'
theorem scAby:Av ["takes","ask","word"] ["takes","ask"] (Ah sAby):=⟨rfl,rfl,rfl,by decide+kernel,rfl,by decide+kernel,by decide+kernel⟩
theorem ok_Aby{f:Addr}{fd:FuncData}(F:Fun K "answer_by" "answer_by" sAby f fd)(T:Txt K mg C I){gTop:Addr}{fTop:FuncData}(bTop:Binds K fTop ["self","place"] [])(hTop:Fy K C "top" gTop)(GTop:FnOk P w K mg base CX0 4 gTop fTop ["self","place"] (Vz C)){gParts:Addr}{fParts:FuncData}(bParts:Binds K fParts ["self"] [])(hParts:Fy K C "parts" gParts)(GParts:FnOk P w K mg base CX0 4 gParts fParts ["self"] (Pu C)){gSize:Addr}{fSize:FuncData}(bSize:Binds K fSize ["self","place"] [])(hSize:Fy K C "size" gSize)(GSize:FnOk P w K mg base CX0 4 gSize fSize ["self","place"] (Tr C)){gOdd:Addr}{fOdd:FuncData}(bOdd:Binds K fOdd ["self"] [])(hOdd:Fy K C "odd" gOdd)(GOdd:FnOk P w K mg base CX0 4 gOdd fOdd ["self"] (spOdd C)):
  FnOk P w K mg base CX0 5 f fd ["takes","ask"] (spAby C):=by
 refine F.ok scAby (λvs H Q E h=> ?_) (λcdv A outer s H vs Q E hr h=> ?_)
 ·obtain⟨_,_,_,_,_,_,_,_,rfl,_⟩:=h;rfl
 ·obtain⟨x,S,r,pre,st,N,L,kk,rfl,hT,ok,hr1,ak,k⟩:=h;refine⟨_,Ae (Aq (i:=2) scAby.nd rfl (Or.inl rfl) (Ao At (pv 1) Af (λ_ _=>rfl)))
   (Ae (Br (Ax Bq (pv 2) Bs (Aw _)) (Ag (As (Cr Bq (Gy (pv 0) T.cl hTop GTop hr bTop .nil C7 (Aa (Ao At (pv 1) Af (λ_ _=>rfl)) Ad)) (Gy (pv 0) T.cl hTop GTop hr bTop .nil C7 (Aa (Ao At (pv 1) Af (λ_ _=>rfl)) Ad)) (Aw _)))) Bd)
   (Ae (Br (Ax Bq (pv 2) Bs (Aw _)) (Ag (As (Di (pv 0) T.cl hParts GParts hr bParts .nil C7))) Bd)
   (Ae (Br (Ax Bq (pv 2) Bs (Aw _)) (Ag (As (Gy (pv 0) T.cl hSize GSize hr bSize .nil C7 (Aa (Ao At (pv 1) Af (λ_ _=>rfl)) Ad)))) Bd)
   (Ag (As (Cr Bq (Di (pv 0) T.cl hOdd GOdd hr bOdd .nil C7) Af (Aw _))))))),?_⟩
  obtain⟨dx,e0⟩:=hT.ob;cases kk with
  |jo n p q=>
   refine⟨_,rfl,r,_,0,_,rfl,rfl,SqT.of hr1,Am (j:=0) rfl,?_⟩;refine⟨_,rfl,rfl,_,rfl,Ew ?_⟩;exact⟨_,rfl,x,dx,_,rfl,e0,Cm S (by decide+kernel),_,rfl,r,_,2,_,rfl,rfl,SqT.of hr1,Am (j:=2) rfl,x,S,pre,st,N,p,rfl,hT,ok,ak.2.1,_,rfl,x,dx,_,rfl,e0,Cm S (by decide+kernel),_,rfl,r,_,3,_,rfl,rfl,SqT.of hr1,Am (j:=3) rfl,x,S,pre,st,N,q,rfl,hT,ok,ak.2.2,rfl,k _ (λ_ _ e=>e)⟩
  |pa n=>
   refine⟨_,rfl,r,_,0,_,rfl,rfl,SqT.of hr1,Am (j:=0) rfl,?_⟩;refine⟨_,rfl,rfl,_,rfl,C4 ?_⟩;dsimp only[B6];refine⟨_,rfl,rfl,_,rfl,Ew ?_⟩;exact⟨_,rfl,x,dx,_,rfl,e0,Cm S (by decide+kernel),x,S,pre,st,N,rfl,hT,ok,λH' s'=>k H' s'⟩
  |si n p=>
   refine⟨_,rfl,r,_,0,_,rfl,rfl,SqT.of hr1,Am (j:=0) rfl,?_⟩;refine⟨_,rfl,rfl,_,rfl,C4 ?_⟩;dsimp only[B6];refine⟨_,rfl,rfl,_,rfl,C4 ?_⟩;dsimp only[B6];refine⟨_,rfl,rfl,_,rfl,Ew ?_⟩;exact⟨_,rfl,x,dx,_,rfl,e0,Cm S (by decide+kernel),_,rfl,r,_,2,_,rfl,rfl,SqT.of hr1,Am (j:=2) rfl,x,S,pre,st,N,p,rfl,hT,ok,ak.2,k _ (λ_ _ e=>e)⟩
  |ev n=>
   refine⟨_,rfl,r,_,0,_,rfl,rfl,SqT.of hr1,Am (j:=0) rfl,?_⟩;refine⟨_,rfl,rfl,_,rfl,C4 ?_⟩;dsimp only[B6];refine⟨_,rfl,rfl,_,rfl,C4 ?_⟩;dsimp only[B6];refine⟨_,rfl,rfl,_,rfl,C4 ?_⟩;dsimp only[B6];exact⟨_,rfl,x,dx,_,rfl,e0,Cm S (by decide+kernel),x,S,pre,st,rfl,hT,rfl,k _ (λ_ _ e=>e)⟩
open M24
def kk(x:Int×Int):List Key:=[.inl x.1,.inl x.2]
theorem Pr{x y:Int×Int}(h:kk x=kk y):x=y:=by
 unfold kk at h;injection h with h1 h2;injection h1 with h1;injection h2 with h2 _;injection h2 with h2;exact Prod.ext h1 h2
structure LD(H0 H:Hp)(d:Addr)(m n:Nat)(F:Int×Int->List T4)(kvs:List (List Key×V)):Prop where
 hd:H d=some (.dT kvs)
 d0:H0 d=none
 sm:Same H0 H
 len:kvs.length<=m
 at':∀x,(∃(a:Addr) (rs:List Addr),Bj kvs (kk x)=some (.ref a)/\H a=some (.lst (rs.map V.ref))/\Prs H rs (F x)/\H0 a=none)\/(Bj kvs (kk x)=none/\F x=[])
 inj:∀x y a,Bj kvs (kk x)=some (.ref a)->Bj kvs (kk y)=some (.ref a)->x=y
 fl:∀x,(F x).length<=n
def Qn(F:Int×Int->List T4)(x:Int×Int)(t:T4):Int×Int->List T4:=λy=>if y=x then F y++[t] else F y
theorem LD.same{H0 H H':Hp}{d:Addr}{m n:Nat}{F:Int×Int->List T4}{kvs:List (List Key×V)}(L:LD H0 H d m n F kvs)(s:Same H H'):LD H0 H' d m n F kvs:=
 ⟨s _ _ L.hd,L.d0,L.sm.trans s,L.len,λx=>(L.at' x).imp (λ⟨a,rs,h1,h2,h3,h4⟩=>⟨a,rs,h1,s _ _ h2,h3.mono λr xs e=>s _ _ e,h4⟩) id,L.inj,L.fl⟩
theorem LD.more{H0 H:Hp}{d:Addr}{m m' n n':Nat}{F:Int×Int->List T4}{kvs:List (List Key×V)}(L:LD H0 H d m n F kvs)(h:m<=m')(h':n<=n'):LD H0 H d m' n' F kvs:=
 ⟨L.hd,L.d0,L.sm,le_trans L.len h,L.at',L.inj,λx=>le_trans (L.fl x) h'⟩
theorem LD.found{H0 H H1:Hp}{d a z:Addr}{m n:Nat}{F:Int×Int->List T4}{kvs:List (List Key×V)}{x:Int×Int}{t:T4}{xs:List V}(L:LD H0 H d m n F kvs)(e:Bj kvs (kk x)=some (.ref a))(s1:Same H H1)(hz:H1 z=some (.tup (prV t)))(ha:H1 a=some (.lst xs)):
  LD H0 (upd H1 a (.lst (xs++[.ref z]))) d m (n+1) (Qn F x t) kvs:=by
 have L1:=L.same s1;obtain⟨rs,hxs,hp,h0⟩:∃rs:List Addr,xs=rs.map V.ref/\Prs H1 rs (F x)/\H0 a=none:=by
  rcases L1.at' x with⟨a',rs,h1,h2,h3,h4⟩|⟨h1,_⟩
  ·rw[e] at h1;cases h1;rw[ha] at h2;cases h2;exact⟨rs,rfl,h3,h4⟩
  ·rw[e] at h1;cases h1
 subst hxs;have up:∀r ys,H1 r=some (.tup ys)->upd H1 a (.lst (rs.map V.ref++[.ref z])) r=some (.tup ys):=λr ys q=>by rw[Ai (Ar q ha (by intro w;cases w))];exact q
 have da:d≠a:=Ar L1.hd ha (by intro w;cases w);refine⟨by rw[Ai da];exact L1.hd,L1.d0,λb o q=>by rw[Ai (Al q h0)];exact L1.sm _ _ q,L1.len,λy=> ?_,L1.inj,λy=> ?_⟩
 ·unfold Qn;by_cases c:y=x
  ·subst c;rw[Qa2 rfl];exact .inl ⟨a,rs++[z],e,by rw[Ab,map_append];rfl,(hp.mono up).snoc (up _ _ hz),h0⟩
  ·rw[Qa1 c];refine(L1.at' y).imp (λ⟨b,qs,h1,h2,h3,h4⟩=>⟨b,qs,h1,?_,h3.mono up,h4⟩) id;have:b≠a:=λq=>c (L1.inj _ _ _ h1 (q▸e));rw[Ai this];exact h2
 ·unfold Qn;have:=L1.fl y;split
  ·rw[Qa3,List.length_singleton];omega
  ·omega
theorem LD.fresh{H0 H:Hp}{d p:Addr}{m n:Nat}{F:Int×Int->List T4}{kvs:List (List Key×V)}{x:Int×Int}(L:LD H0 H d m n F kvs)(e:Bj kvs (kk x)=none)(hp:H p=none):
  LD H0 (upd (upd H p (.lst [])) d (.dT (Bw kvs (kk x) (.ref p)))) d (m+1) n F (Bw kvs (kk x) (.ref p)):=by
 have p0:H0 p=none:=by
  cases q:H0 p with
  |none=>rfl
  |some o=>rw[L.sm _ _ q] at hp;cases hp
 have dp:d≠p:=Al L.hd hp;have ol:∀b o,H b=some o->b≠d->upd (upd H p (.lst [])) d (.dT (Bw kvs (kk x) (.ref p))) b=some o:=λb o q n=>by rw[Ai n,Ai (Al q hp)];exact q
 have up:∀r ys,H r=some (.tup ys)->upd (upd H p (.lst [])) d (.dT (Bw kvs (kk x) (.ref p))) r=some (.tup ys):=λr ys q=>ol _ _ q (Ar q L.hd (by intro w;cases w));have hpe:upd (upd H p (.lst [])) d (.dT (Bw kvs (kk x) (.ref p))) p=some (.lst []):=by rw[Ai dp.symm,Ab]
 have fx:F x=[]:=by
  rcases L.at' x with⟨a,rs,h1,_⟩|⟨_,h⟩
  ·rw[e] at h1;cases h1
  ·exact h
 refine⟨Ab,L.d0,λb o q=>ol _ _ (L.sm _ _ q) (Al q L.d0),by have:=Cu kvs (kk x) (.ref p);have:=L.len;omega,λy=> ?_,λy z a h1 h2=> ?_,L.fl⟩
 ·rw[Gd];by_cases c:y=x
  ·subst c;rw[Qa2 rfl];exact .inl ⟨p,[],rfl,hpe,by rw[fx];exact⟨rfl,λi r t h=>by(cases h)⟩,p0⟩
  ·rw[Qa1 (λq=>c (Pr q))];refine(L.at' y).imp (λ⟨b,qs,h1,h2,h3,h4⟩=>⟨b,qs,h1,ol _ _ h2 (Ar h2 L.hd (by intro w;cases w)),h3.mono up,h4⟩) id
 ·have old:∀w,Bj kvs (kk w)=some (.ref a)->a≠p:=λw h=>by
   rcases L.at' w with⟨b,qs,h3,h4,_⟩|⟨h3,_⟩
   ·rw[h] at h3;cases h3;exact Al h4 hp
   ·rw[h] at h3;cases h3
  rw[Gd] at h1 h2;by_cases c1:y=x
  ·by_cases c2:z=x
   ·rw[c1,c2]
   ·rw[Qa2 (by rw[c1])] at h1;rw[Qa1 (λq=>c2 (Pr q))] at h2;cases h1;exact absurd rfl (old _ h2)
  ·rw[Qa1 (λq=>c1 (Pr q))] at h1;by_cases c2:z=x
   ·rw[Qa2 (by rw[c2])] at h2;cases h2;exact absurd rfl (old _ h1)
   ·rw[Qa1 (λq=>c2 (Pr q))] at h2;exact L.inj _ _ _ h1 h2
theorem Js{n:Nat}(h:n<=9000):n<sizeLine:=lt_of_le_of_lt h (by decide)
def LaidAt(H:Hp)(d:Addr)(F:Int×Int->List T4):Prop:=∃kvs:List (List Key×V),H d=some (.dT kvs)/\∀x,(∃(a:Addr) (rs:List Addr),Bj kvs (kk x)=some (.ref a)/\H a=some (.lst (rs.map V.ref))/\Prs H rs (F x))\/(Bj kvs (kk x)=none/\F x=[])
noncomputable def Ze(ds:List Dd):Int×Int->List T4:=Dr ((ds.length:Int)+1) (Be (ds.map toD) (ds.map toD).length)
def J5(sz:Int)(L:List Life)(l:Life)(j:Nat)(x:Int×Int):List T4:=Dr sz L x++(((Eu sz l).take j).filter λy=>decide (y=x)).map λ_=>l.t4
theorem U1(sz:Int)(L:List Life)(l:Life):J5 sz L l 0=Dr sz L:=by
 funext x;unfold J5;simp
theorem Mb{sz:Int}{L:List Life}{l:Life}{j:Nat}{x:Int×Int}(h:(Eu sz l)[j]? =some x):Qn (J5 sz L l j) x l.t4=J5 sz L l (j+1):=by
 funext y
 unfold Qn J5;rw[Bu h,filter_append,map_append];by_cases c:y=x
 ·subst c;simp
 ·have:¬x=y:=λq=>c q.symm;simp[c,this]
theorem X1{sz:Int}{L:List Life}{l:Life}:J5 sz L l (Eu sz l).length=Dr sz (L++[l]):=by
 funext y
 unfold J5 Dr;rw[Qb8,flatMap_append];simp
def Tj:Sp:=λvs H Q _=>∃(h:Addr) (N:Nat) (ds:List Dd),vs=[.ref h]/\HistAt H h N ds/\Db N ds/\∀(d:Addr) (H':Hp),Same H H'->LaidAt H' d (Ze ds)->Q (.ref d) H'
theorem histD{H:Hp}{h:Addr}{N:Nat}{ds:List Dd}(x:HistAt H h N ds)(hR:Db N ds):HistD H h (ds.map toD):=by
 obtain⟨tp,rs,e1,e2,e3⟩:=x;refine⟨_,tp,rs,e1,e2,⟨by rw[If];exact e3.1,λi r d a b=> ?_⟩,by rw[If];exact hR.len⟩;rw[getElem?_map] at b;cases q:ds[i]? with
 |none=>rw[q] at b;cases b
 |some d0=>
  rw[q] at b;cases Option.some.inj b;rw[toD_vs];exact e3.2 i r d0 a q
theorem Il{N:Nat}{ds:List Dd}(hR:Db N ds){l:Life}(hl:l∈Be (ds.map toD) (ds.map toD).length):l.vs=[.str l.n,.int (l.s:Int),.int (l.e:Int),.int (l.t4.2.1:Int),.int (l.t4.2.2.1:Int),.int l.w]/\l.t4.2.1<N/\l.t4.2.2.1<N/\l.s<l.e/\l.e<=ds.length:=by
 obtain⟨m,h1,h2,h3⟩:=Do hl;rw[If] at h1;have e:=Cc (l:=ds) h1;rw[Fp e] at h2;have ok:=hR.ok _ _ e;have g:=Uh (ds.map toD) l.s l.n (by rw[If];exact h1);have g2:=end_le (ds.map toD) l.s l.n;rw[If] at g2;cases hd:ds[l.s] with
 |go m' n'=>rw[hd] at h2;cases h2
 |come m' t=>
  rw[hd] at h2 ok;injection Option.some.inj h2 with q1 q2 q3 q4 q5;have ta:l.t4.2.1=t.2.1:=by show l.a.toNat=_;rw[<-q3];exact Qd4 _
  have tb:l.t4.2.2.1=t.2.2.1:=by show l.b.toNat=_;rw[<-q4];exact Qd4 _
  refine⟨?_,?_,?_,by omega,by omega⟩
  ·unfold Life.vs;rw[ta,tb,q3,q4]
  ·rw[ta];exact ok.2.1
  ·rw[tb];exact ok.2.2.1
theorem scLaid:Av ["history","size","laid","name","start","stop","one","other","weight","half"] ["history"] (Ah sLaid):=⟨rfl,rfl,rfl,by decide+kernel,rfl,by decide+kernel,by decide+kernel⟩
theorem ok_Laid{f:Addr}{fd:FuncData}(F:Fun K "joins_laid" "joins_laid" sLaid f fd)(T:Txt K mg C I)(GLives:Cl P w K mg base 9 "lives_of" ["history"] O3)(GPo:Cl P w K mg base 9 "pieces_of" ["size","low","high"] spPo):
  FnOk P w K mg base CX0 10 f fd ["history"] Tj:=by
 refine F.ok scLaid (λvs H Q E h=> ?_) (λcdv A outer s H vs Q E hr h=> ?_)
 ·obtain⟨_,_,_,rfl,_⟩:=h;rfl
 ·obtain⟨h,N,ds,rfl,hist,hR,k⟩:=h;refine⟨_,Ae (Aq (i:=1) scLaid.nd rfl (Or.inl rfl) (Au Bi (A0 Ay (by rfl) T.len PySem.boot_len (Aa (Ao At (pv 0) Af (λ_ _=>rfl)) Ad)) Af))
   (Ae (Aq (i:=2) scLaid.nd rfl (Or.inl rfl) Rk)
   (Ae (Cb PassesOwn.never rfl (Ds (A7 GLives hr (Aa (pv 0) Ad))) (C8 rfl (An (Aj (i:=3) scLaid.nd rfl (Or.inl rfl)) (An (Aj (i:=4) scLaid.nd rfl (Or.inl rfl)) (An (Aj (i:=5) scLaid.nd rfl (Or.inl rfl)) (An (Aj (i:=6) scLaid.nd rfl (Or.inl rfl)) (An (Aj (i:=7) scLaid.nd rfl (Or.inl rfl)) (An (Aj (i:=8) scLaid.nd rfl (Or.inl rfl)) Bk))))))) (Ag (Cb PassesOwn.never rfl (Ds (A7 GPo hr (Aa (pv 1) (Aa (Au Bi (pv 4) Af) (Aa (Au Bi (pv 5) Af) Ad))))) (Aj (i:=9) scLaid.nd rfl (Or.inl rfl)) (Ag (Co (De Qc3 PySem.F.slot_list_append PySem.F.type_list_append Cq (Yt (Dk hr) (pv 2) (pv 9) (Bh Ad) ⟨rfl,rfl,rfl,rfl⟩) (Aa (A1 (Aa (pv 6) (Aa (pv 7) Ad))) Ad)))))))
   (Ag (As (pv 2))))),?_⟩
  obtain⟨tp,rs0,eh,et,hdd⟩:=id hist;have d60:=hR.len;have ll:(rs0.map V.ref).length=ds.length:=by rw[If,hdd.1]
  refine⟨_,rfl,h,_,1,_,rfl,rfl,SqT.of eh,Am (j:=1) rfl,tp,_,rfl,.inr (SqT.of et),_,_,rfl,rfl,?_⟩;rw[ll];refine λd hd=> ?_;have s1:=Ac (o:= .dT []) hd;have d1:=Ab (H:=H) (a:=d) (o:= .dT []);have L0:LD H (upd H d (.dT [])) d 0 0 (λ_=>[]) []:=⟨d1,hd,s1,le_refl _,λx=> .inr ⟨rfl,rfl⟩,λx y a e=>(by cases e),λx=>le_refl _⟩
  show Xc _ _ _ _ _;generalize upd H d (.dT [])=H1 at s1 d1 L0;refine⟨_,rfl,h,ds.map toD,rfl,histD (hist.same s1) hR,rightN hR,λlv H2 s2 hlv=> ?_⟩;obtain⟨qs,hqs,hrl⟩:=hlv;obtain⟨LL,hLL⟩:∃LL,LL=Be (ds.map toD) (ds.map toD).length:=⟨_,rfl⟩
  rw[<-hLL] at hrl;have lL:LL.length<=60:=by have:=Gp (ds.map toD) (ds.map toD).length;rw[hLL];rw[If] at this ⊢;omega
  have L2':=L0.same s2;refine⟨lv,rfl,⟨_,SqT.of hqs⟩,Jd (K:=K) (a:=lv) (xs:=qs.map V.ref) (λi σ H3=>∃(u3 u4 u5 u6 u7 u8 u9:Option V) (kvs:List (List Key×V)),σ=[some (.ref h),some (.int ((ds.length:Int)+1)),some (.ref d),u3,u4,u5,u6,u7,u8,u9]/\LD H H3 d (64 * i) (64 * i) (Dr ((ds.length:Int)+1) (LL.take i)) kvs/\(∀b xs,H2 b=some (.tup xs)->H3 b=some (.tup xs))) ⟨none,none,none,none,none,none,none,[],rfl,(by rw[List.take_zero];exact L2'),λb xs e=>e⟩ (λi σ H3 _ ⟨_,_,_,_,_,_,_,_,_,_,f⟩=>SqT.of (f _ _ hqs)) ?_ ?_⟩
  ·rintro i x σ H3 hx ⟨u3,u4,u5,u6,u7,u8,u9,kvs,rfl,L3,f3⟩;obtain⟨q,hq,rfl⟩:=map_some hx;have li:i<LL.length:=by rw[<-hrl.1];exact(List.getElem?_eq_some_iff.mp hq).1
   have el:=Cc (l:=LL) li;obtain⟨l,hl⟩:∃l,LL[i]=l:=⟨_,rfl⟩
   rw[hl] at el;obtain⟨evs,p1,p2,p3,p4⟩:=Il hR (l:=l) (hLL▸mem_of_getElem? el);have eq3:=f3 _ _ (hrl.2 i q l hq el);rw[evs] at eq3;refine⟨q,_,rfl,SqT.of eq3,rfl,_,_,rfl,_,_,rfl,_,_,rfl,_,_,rfl,_,_,rfl,_,_,rfl,rfl,?_⟩;refine⟨_,rfl,_,rfl,_,_,rfl,rfl,_,rfl,_,_,rfl,rfl,_,_,_,rfl,by omega,by omega,λpa prs H4 s4 hpa hpr=> ?_⟩;have L4:=L3.same s4;have plen:(Eu ((ds.length:Int)+1) l).length<=64:=Id 6 _ _ _ _;refine⟨pa,rfl,⟨_,SqT.of hpa⟩,Jd (K:=K) (a:=pa) (xs:=prs.map V.ref) (λj σ H5=>∃(u9:Option V) (kvs:List (List Key×V)),σ=[some (.ref h),some (.int ((ds.length:Int)+1)),some (.ref d),some (.str l.n),some (.int (l.s:Int)),some (.int (l.e:Int)),some (.int (l.t4.2.1:Int)),some (.int (l.t4.2.2.1:Int)),some (.int l.w),u9]/\LD H H5 d (64 * i+j) (64 * i+j) (J5 ((ds.length:Int)+1) (LL.take i) l j) kvs/\(∀b xs,H4 b=some (.tup xs)->H5 b=some (.tup xs))) ⟨_,kvs,rfl,(by rw[U1];exact L4),λb xs e=>e⟩ (λj σ H5 _ ⟨_,_,_,_,f⟩=>SqT.of (f _ _ hpa)) ?_ ?_⟩
   ·rintro j x σ H5 hx ⟨u9',kvs5,rfl,L5,f5⟩;obtain⟨hf,hhf,rfl⟩:=map_some hx;obtain⟨y,hy,ey⟩:=hpr.get hhf;have jl:j<64:=by have:=(List.getElem?_eq_some_iff.mp hy).1;unfold Eu at plen;omega
    have ey5:=f5 _ _ ey;refine⟨_,rfl,d,rfl,.inr ⟨_,.inl L5.hd⟩,_,rfl,small (by simp),λp hp=> ?_⟩;have s6:=Ac (o:= .lst []) hp;have L6:=L5.same s6;have len5:=L5.len;refine⟨kvs5,kk y,hf,L6.hd,rfl,s6 _ _ ey5,Js (by omega),λv hv=> ?_,λhn=> ?_⟩
    ·rcases L6.at' y with⟨a,rs,g1,g2,g3,g4⟩|⟨g1,_⟩
     ·rw[hv] at g1;cases g1;refine⟨.inl ⟨rfl,_,SqL.of g2⟩,_,rfl,_,rfl,small (by simp),λz hz=> ?_⟩;have s7:=Ac (o:= .tup [.int (l.t4.2.1:Int),.int (l.t4.2.2.1:Int)]) hz;have z7:=Ab (H:=upd H5 p (.lst [])) (a:=z) (o:= .tup [.int (l.t4.2.1:Int),.int (l.t4.2.2.1:Int)]);have L8:=L6.found hv s7 (t:=l.t4) z7 (s7 _ _ g2);have rl:rs.length<=64 * i+j:=by rw[g3.1];exact L6.fl y
      refine⟨a,_,_,rfl,rfl,s7 _ _ g2,Js (by rw[If];omega),_,kvs5,rfl,?_,λb xs e=> ?_⟩
      ·rw[Mb hy] at L8;exact L8.more (by omega) (le_refl _)
      ·have e6:=s7 _ _ (s6 _ _ (f5 _ _ e));rw[Ai (Ar e6 (s7 _ _ g2) (by intro w;cases w))];exact e6
     ·rw[hv] at g1;cases g1
    ·have L7:=L5.fresh hn hp;have p7:upd (upd H5 p (.lst [])) d (.dT (Bw kvs5 (kk y) (.ref p))) p=some (.lst []):=by rw[Ai (Al L5.hd hp).symm,Ab]
     have t7:∀b xs,H5 b=some (.tup xs)->upd (upd H5 p (.lst [])) d (.dT (Bw kvs5 (kk y) (.ref p))) b=some (.tup xs):=λb xs e=>by
      rw[Ai (Ar e L5.hd (by intro w;cases w)),Ai (Al e hp)];exact e
     have v7:Bj (Bw kvs5 (kk y) (.ref p)) (kk y)=some (.ref p):=by rw[Gd,Qa2 rfl]
     change tyV _ _ _ _/\_;generalize upd (upd H5 p (.lst [])) d (.dT (Bw kvs5 (kk y) (.ref p)))=H7 at L7 p7 t7 ⊢;refine⟨.inl ⟨rfl,_,SqL.of p7⟩,_,rfl,_,rfl,small (by simp),λz hz=> ?_⟩;have s8:=Ac (o:= .tup [.int (l.t4.2.1:Int),.int (l.t4.2.2.1:Int)]) hz;have z8:=Ab (H:=H7) (a:=z) (o:= .tup [.int (l.t4.2.1:Int),.int (l.t4.2.2.1:Int)]);refine⟨p,[],_,rfl,rfl,s8 _ _ p7,small (by simp),_,Bw kvs5 (kk y) (.ref p),rfl,?_,λb xs e=> ?_⟩
     ·have L9:=L7.found v7 s8 (t:=l.t4) z8 (s8 _ _ p7);rw[Mb hy] at L9;exact L9.more (le_refl _) (le_refl _)
     ·have e8:=s8 _ _ (t7 _ _ (f5 _ _ e));rw[Ai (Ar e8 (s8 _ _ p7) (by intro w;cases w))];exact e8
   ·rintro σ H5 ⟨u9',kvs5,rfl,L5,f5⟩;have ple:(prs.map V.ref).length=(Eu ((ds.length:Int)+1) l).length:=by rw[If];exact hpr.len
    rw[ple,X1,<-Bu el] at L5;exact⟨_,_,_,_,_,_,_,kvs5,rfl,L5.more (by omega) (by omega),λb xs e=>f5 _ _ (s4 _ _ (f3 _ _ e))⟩
  ·rintro σ H3 ⟨u3,u4,u5,u6,u7,u8,u9,kvs,rfl,L3,f3⟩;rw[If,hrl.1,Qb8,hLL] at L3;exact⟨_,rfl,k d H3 L3.sm ⟨kvs,L3.hd,λx=>(L3.at' x).imp (λ⟨a,rs,h1,h2,h3,_⟩=>⟨a,rs,h1,h2,h3⟩) id⟩⟩
end K29
namespace K29
variable{P:Program}{w:World}{K:Frag}{mg:Str->Option Value}{base:Heap}{C I:Addr}
open PySem L2 Wk
open M24
def LaidX(H:Hp)(d S:Addr)(F:Int×Int->List T4):Prop:=∃kvs:List (List Key×V),H d=some (.dT kvs)/\∀x,(∃(a:Addr) (rs:List Addr),Bj kvs (kk x)=some (.ref a)/\H a=some (.lst (rs.map V.ref))/\Prs H rs (F x)/\a≠S)\/(Bj kvs (kk x)=none/\F x=[])
theorem LaidX.mv{C:Addr}{H H':Hp}{d x S S':Addr}{F:Int×Int->List T4}{sts:List S3}(h:LaidX H d S F)(tk:TkAt C H x S sts)(fr:∀b o,H b=some o->b≠x->b≠S->H' b=some o)(s0:H S'=none):LaidX H' d S' F:=by
 obtain⟨kvs,hd,ha⟩:=h;obtain⟨⟨dx,ex⟩,⟨ss,eS,_⟩,_⟩:=tk;have tp:∀r xs,H r=some (.tup xs)->H' r=some (.tup xs):=λr xs e=>fr _ _ e (Ar e ex (by intro z;cases z)) (Ar e eS (by intro z;cases z));exact⟨kvs,fr _ _ hd (Ar hd ex (by intro z;cases z)) (Ar hd eS (by intro z;cases z)),λy=>(ha y).imp (λ⟨a,rs,h1,h2,h3,h4⟩=>⟨a,rs,h1,fr _ _ h2 (Ar h2 ex (by intro z;cases z)) h4,h3.mono tp,Al h2 s0⟩) id⟩
theorem LaidX.same{H H':Hp}{d S:Addr}{F:Int×Int->List T4}(h:LaidX H d S F)(s:Same H H'):LaidX H' d S F:=by
 obtain⟨kvs,hd,ha⟩:=h;exact⟨kvs,s _ _ hd,λy=>(ha y).imp (λ⟨a,rs,h1,h2,h3,h4⟩=>⟨a,rs,h1,s _ _ h2,h3.mono λr xs e=>s _ _ e,h4⟩) id⟩
theorem Um{N:Nat}{F:Int×Int->List T4}{ks:List Ak}{d:Nat}{lo hi:Int}{J:List T4}(g:hi - lo=1):Dp N F ks d lo hi J=Dm (stF N (J++F (lo,hi))) lo ks:=by
 cases d with
 |zero=>rfl
 |succ d=>unfold Dp;rw[Qa2 g]
structure TP(C:Addr)(H:Hp)(la x hf ta S:Addr)(N L:Nat)(lo hi:Int)(d:Nat)(Fn:Int×Int->List T4)(J:List T4)(rs:List Addr)(ks:List Ak):Prop where
 eh:H hf=some (.tup [.int lo,.int hi])
 lh:lo<hi
 dp:hi - lo<=2 ^ d
 d6:d<=6
 ld:LaidX H la S Fn
 tk:TkAt C H x S (Fh N J)
 n1:1<=N
 n24:N<=24
 inn:∀y,InN N (Fn y)
 ij:InN N J
 bd:∀n,lo<=n->n<hi->(J++(pth d lo hi n).flatMap Fn).length<=60
 ea:H ta=some (.tup (rs.map V.ref))
 ak:AksAt H rs ks
 ok:∀k∈ks,AkOk N L k
 kl:ks.length<=60
structure TQ(C:Addr)(H H':Hp)(x S S' l:Addr)(sts:List S3)(G:List Srt.Pr')(te:List (Int×V)):Prop where
 fr:∀b o,H b=some o->b≠x->b≠S->H' b=some o
 tk:TkAt C H' x S' sts
 s0:H S'=none
 so:∃o,H' S=some o
 hl:H' l=some (.lst (G.map Srt.pRef))
 ls:l≠S'
 pr:∀q∈G,H' q.1=some (.tup [.int q.2.1,q.2.2])
 gt:G.map (·.2)=te
def Vd(C:Addr):Nat->Sp
 |0=>λ_ _ _ _=>False
 |d+1=>λvs H Q _=>∃(la x hf ta S:Addr) (N L:Nat) (lo hi:Int) (Fn:Int×Int->List T4) (J:List T4) (rs:List Addr) (ks:List Ak),vs=[.ref la,.ref x,.ref hf,.ref ta]/\TP C H la x hf ta S N L lo hi d Fn J rs ks/\∀(l S':Addr) (G:List Srt.Pr') (H':Hp),TQ C H H' x S S' l (Fh N J) G (Dp N Fn ks d lo hi J)->Q (.ref l) H'
def tTailT(C:Addr):TS:=λD σ H=>∃(la x hf ta S l:Addr) (lo hi:Int) (sts:List S3) (k:Nat) (u7 u8 u10:Option V),σ=[some (.ref la),some (.ref x),some (.ref hf),some (.ref ta),some (.int lo),some (.int hi),some (.int (k:Int)),u7,u8,some (.ref l),u10]/\TkAt C H x S sts/\k<sts.length/\∀(S':Addr) (H':Hp),H S'=none->(∀b o,H b=some o->b≠x->H' b=some o)->TkAt C H' x S' (sts.take (k+1))->D.rt (.ref l) H'
theorem Hw(st:S3)(lo:Int)(ks:List Ak):(Dm st lo ks).length<=ks.length:=by
 unfold Dm;rw[If];exact le_trans (Qd1 _ _) (by rw[List.length_zipIdx];exact le_refl _)
theorem Gw(N:Nat)(F:Int×Int->List T4){ks:List Ak}(h:ks.length<=60):∀(d:Nat) (lo hi:Int) (J:List T4),(Dp N F ks d lo hi J).length<=60 * 2 ^ d
 |0,lo,hi,J=>by unfold Dp;have:=Hw (stF N (J++F (lo,hi))) lo ks;omega
 |d+1,lo,hi,J=>by
  unfold Dp;have p:2 ^ (d+1)=2 * 2 ^ d:=by rw[Nat.pow_succ];omega
  have q:1<=2 ^ d:=Nat.one_le_two_pow;split
  ·have:=Hw (stF N (J++F (lo,hi))) lo ks;omega
  ·rw[Qa3];have h1:=Gw N F h d lo ((lo+hi) / 2) (J++F (lo,hi));have h2:=Gw N F h d ((lo+hi) / 2) hi (J++F (lo,hi));omega
theorem pth_head{d:Nat}{lo hi n:Int}{F:Int×Int->List T4}:(F (lo,hi)).length<=((pth d lo hi n).flatMap F).length:=by
 cases d with
 |zero=>simp[pth]
 |succ d=>unfold pth;rw[Qb7,Qa3];omega
theorem R5{d:Nat}{lo hi n:Int}(h:¬hi - lo=1)(c:n<(lo+hi) / 2):pth (d+1) lo hi n=(lo,hi)::pth d lo ((lo+hi) / 2) n:=by
 conv=>lhs;unfold pth
 rw[Qa1 h,Qa2 c]
theorem Nv{d:Nat}{lo hi n:Int}(h:¬hi - lo=1)(c:¬n<(lo+hi) / 2):pth (d+1) lo hi n=(lo,hi)::pth d ((lo+hi) / 2) hi n:=by
 conv=>lhs;unfold pth
 rw[Qa1 h,Qa1 c]
theorem tkFree{C:Addr}{H H':Hp}{x S b:Addr}{sts sts':List S3}(tk:TkAt C H x S sts)(tk':TkAt C H' x S sts')(fr:∀b o,H b=some o->b≠x->b≠S->H' b=some o)(h:H' b=none):H b=none:=by
 obtain⟨⟨dx,ex⟩,⟨_,eS,_⟩,_⟩:=tk';cases e:H b with
 |none=>rfl
 |some o=>
  rw[fr b o e (λz=>by rw[z,ex] at h;cases h) (λz=>by rw[z,eS] at h;cases h)] at h;cases h
theorem scTold:Av ["laid","takes","half","asks","low","high","mark","one","other","told","middle"] ["laid","takes","half","asks"] (Ah Wg):=⟨rfl,rfl,rfl,by decide+kernel,rfl,by decide+kernel,by decide+kernel⟩
theorem ok_Told{f:Addr}{fd:FuncData}(F:Fun K "told_in" "told_in" Wg f fd)(T:Txt K mg C I){gJoins:Addr}{fJoins:FuncData}(bJoins:Binds K fJoins ["self"] [])(hJoins:Fy K C "joins" gJoins)(GJoins:FnOk P w K mg base CX0 6 gJoins fJoins ["self"] (Kw C)){gJoin:Addr}{fJoin:FuncData}(bJoin:Binds K fJoin ["self","one","other"] [])(hJoin:Fy K C "join" gJoin)(GJoin:FnOk P w K mg base CX0 6 gJoin fJoin ["self","one","other"] (Tl C))(GAby:Cl P w K mg base 6 "answer_by" ["takes","ask"] (spAby C)){gBack:Addr}{fBack:FuncData}(bBack:Binds K fBack ["self","thing"] [])(hBack:Fy K C "back" gBack)(GBack:FnOk P w K mg base CX0 6 gBack fBack ["self","thing"] (U5 C))(bTold:Binds K fd ["laid","takes","half","asks"] [])(hTold:mg "told_in"=some (.ref f)):
  ∀n,FnOk P w K mg base CX0 (n+6) f fd ["laid","takes","half","asks"] (Vd C n):=by
 intro n
 induction n with
 |zero=>exact F.ok scTold (λvs H Q E h=>h.elim) (λcdv A outer s H vs Q E hr h=>h.elim)
 |succ d ih=>
 refine F.ok scTold (λvs H Q E h=> ?_) (λcdv A outer s H vs Q E hr h=> ?_)
 ·obtain⟨_,_,_,_,_,_,_,_,_,_,_,_,_,rfl,_⟩:=h;rfl
 ·obtain⟨la,x,hf,ta,S,N,L,lo,hi,Fn,J,rs,ks,rfl,B,k⟩:=h;refine⟨_,Ae (Da (pv 2) (C8 rfl (An (Aj (i:=4) scTold.nd rfl (Or.inr rfl)) (An (Aj (i:=5) scTold.nd rfl (Or.inl rfl)) Bk))))
   (Ae (Aq (i:=6) scTold.nd rfl (Or.inl rfl) (Di (pv 1) T.cl hJoins GJoins (hr.mono (by omega)) bJoins .nil C7))
   (Ae (Cb PassesOwn.never rfl (Cd (pe_dget2 (Dk hr) (pv 0) (pv 2) (Bh Ad) ⟨rfl,rfl,rfl,rfl⟩)) (C8 rfl (An (Aj (i:=7) scTold.nd rfl (Or.inl rfl)) (An (Aj (i:=8) scTold.nd rfl (Or.inl rfl)) Bk))) (Ag (Co (Gy (pv 1) T.cl hJoin GJoin (hr.mono (by omega)) bJoin .nil C7 (Aa (pv 7) (Aa (pv 8) Ad))))))
   (Ae (Br (Ax Bq (Au Fv (pv 5) (pv 4)) Af (Aw _)) (Ag (Eo (i:=9) (T:=["number","ask"]) (F:=["low","takes"]) (js:=[4,1]) scTold.nd rfl (Or.inl rfl) (cs (osc:=Ah Wg)) rfl (Iz rfl T.enumerate (Aa (pv 3) Ad)) (λ_ _ _ _ _=>Fk K 2 rfl rfl (An (Aj (i:=0) (show (["number","ask","low","takes"]:List Str).Nodup by decide+kernel) rfl (Or.inl rfl)) (An (Aj (i:=1) (show (["number","ask","low","takes"]:List Str).Nodup by decide+kernel) rfl (Or.inl rfl)) Bk))) (λ_ _ _ _ _=>Ep (Ax Bq (Ao (r:=Hr K) At (pv 1) Af (λ_ _=>rfl)) (pv 2) (Aw _))) (λ_ _ _ _ _=>A1 (Aa (pv 0) (Aa (A7 GAby (hr.mono (by omega)) (Aa (pv 3) (Aa (pv 1) Ad))) Ad))))) (Ae (Aq (i:=10) scTold.nd rfl (Or.inl rfl) (Au Gr (Au Bi (pv 4) (pv 5)) Af))
   (Ag (Aq (i:=9) scTold.nd rfl (Or.inl rfl) (Au P0 (Go ih hr rfl hTold F.kp bTold .nil C7 (Aa (pv 0) (Aa (pv 1) (Aa (A1 (Aa (pv 4) (Aa (pv 10) Ad))) (Aa (pv 3) Ad))))) (Go ih hr rfl hTold F.kp bTold .nil C7 (Aa (pv 0) (Aa (pv 1) (Aa (A1 (Aa (pv 10) (Aa (pv 5) Ad))) (Aa (pv 3) Ad))))))))))
   (PSs.imp' (t':=tTailT C) (Ae (Co (Gy (pv 1) T.cl hBack GBack (hr.mono (by omega)) bBack .nil C7 (Aa (pv 6) Ad)))
   (Ag (As (pv 9)))) ?tail)))),?_⟩
  case tail=>
   rintro D σ H ⟨la,x,hf,ta,S,l,lo,hi,sts,k,u7,u8,u10,rfl,hT,hk,kk'⟩;obtain⟨dx,e0⟩:=hT.ob;exact⟨_,rfl,x,dx,_,rfl,e0,Cm S (by decide+kernel),_,rfl,x,S,sts,k,rfl,hT,hk,λS' H' h1 h2 h3=>⟨_,rfl,kk' S' H' h1 h2 h3⟩⟩
  have lh:=B.lh;have dp:=B.dp;obtain⟨dx,e0⟩:=B.tk.ob;obtain⟨rsS,eS,_⟩:=B.tk.st;refine⟨_,rfl,hf,_,rfl,SqT.of B.eh,rfl,_,_,rfl,_,_,rfl,rfl,?_⟩;refine⟨_,rfl,x,dx,_,rfl,e0,Cm S (by decide+kernel),x,S,_,rfl,B.tk,?_⟩;have mk:(((Fh N J).length:Nat):Int) - 1=((J.length:Nat):Int):=by rw[Qf];omega
  rw[mk];obtain⟨kvs,hla,hLX⟩:=id B.ld;refine⟨_,rfl,la,rfl,.inr ⟨_,.inl hla⟩,_,rfl,small (by simp),λp hp=> ?_⟩;have s1:=Ac (o:= .lst []) hp;have p1:=Ab (H:=H) (a:=p) (o:= .lst []);refine⟨_,DGet.t (k:=kk (lo,hi)) (s1 _ _ hla) (s1 _ _ B.eh),?_⟩;obtain⟨c,cs,ec,hc1,hc2,hc3⟩:∃(c:Addr) (cs:List Addr),(Bj kvs (kk (lo,hi))).getD (.ref p)= .ref c/\upd H p (.lst []) c=some (.lst (cs.map V.ref))/\Prs (upd H p (.lst [])) cs (Fn (lo,hi))/\c≠S:=by
   rcases hLX (lo,hi) with⟨a',rs',h1,h2,h3,h4⟩|⟨h1,h2⟩
   ·exact⟨a',rs',by rw[h1];rfl,s1 _ _ h2,h3.mono λr xs e=>s1 _ _ e,h4⟩
   ·exact⟨p,[],by rw[h1];rfl,p1,by rw[h2];exact⟨rfl,λi r t z=>by(cases z)⟩,(Al eS hp).symm⟩
  rw[ec];have T1:=B.tk.same s1;generalize upd H p (.lst [])=H1 at s1 p1 hc1 hc2 T1;obtain⟨J',hJ'⟩:∃J',J'=J++Fn (lo,hi):=⟨_,rfl⟩
  have jl:J'.length<=60:=by
   have b1:=B.bd lo (Int.le_refl _) lh;have b2:=pth_head (d:=d) (lo:=lo) (hi:=hi) (n:=lo) (F:=Fn);rw[Qa3] at b1;rw[hJ',Qa3];omega
  have ijf:InN N J':=λt ht=>by
   rw[hJ'] at ht;rcases mem_append.mp ht with ht|ht
   ·exact B.ij t ht
   ·exact B.inn _ t ht
  refine⟨c,rfl,⟨_,SqL.of hc1⟩,Ej (K:=K) (a:=c) (xs:=cs.map V.ref) (λj σ H5=>∃(u7 u8 u9 u10:Option V),σ=[some (.ref la),some (.ref x),some (.ref hf),some (.ref ta),some (.int lo),some (.int hi),some (.int (J.length:Int)),u7,u8,u9,u10]/\(∀b o,H1 b=some o->b≠S->H5 b=some o)/\TkAt C H5 x S (Fh N (J++(Fn (lo,hi)).take j))) ⟨none,none,none,none,rfl,λb o e _=>e,(by rw[List.take_zero,Qc9];exact T1)⟩ (λj σ H5 _ ⟨_,_,_,_,_,f,_⟩=>SqL.of (f _ _ hc1 hc3)) ?_ ?_⟩
  ·rintro j y σ H5 hy ⟨u7,u8,u9,u10,rfl,f5,T5⟩;obtain⟨r,hr',rfl⟩:=map_some hy;obtain⟨t,ht,er⟩:=hc2.get hr';have tN:=B.inn _ t (mem_of_getElem? ht);have er5:=f5 _ _ er (Ar er (s1 _ _ eS) (by intro z;cases z));have jj:j<(Fn (lo,hi)).length:=(List.getElem?_eq_some_iff.mp ht).1;have lQ:(J++(Fn (lo,hi)).take j).length<=60:=by rw[hJ',Qa3] at jl;rw[Qa3,Qb0];omega
   obtain⟨pre,ep,lp⟩:=R7 N (J++(Fn (lo,hi)).take j);have T5':=T5;rw[ep] at T5';obtain⟨dx5,o5⟩:=T5.ob;have U:=Th B.n24 (P:=J++(Fn (lo,hi)).take j) λu hu=>by
    rcases mem_append.mp hu with hu|hu
    ·exact B.ij u hu
    ·exact B.inn _ u (List.mem_of_mem_take hu)
   refine⟨r,_,rfl,SqT.of er5,rfl,_,_,rfl,_,_,rfl,rfl,?_⟩;refine⟨_,rfl,x,dx5,_,rfl,o5,Cm S (by decide+kernel),_,rfl,_,rfl,x,S,pre,_,N,t.2.1,t.2.2.1,rfl,T5',by omega,⟨U.lt,U.ls,B.n1,B.n24⟩,tN.1,tN.2,λH6 f6 T6=> ?_⟩;rw[<-ep,<-Zs,append_assoc,<-Bu ht] at T6;exact⟨_,_,_,_,rfl,λb o e n=>f6 _ _ (f5 _ _ e n) n,T6⟩
  rintro σ H5 ⟨u7,u8,u9,u10,rfl,f5,T5⟩;have clen:(cs.map V.ref).length=(Fn (lo,hi)).length:=by rw[If];exact hc2.1
  rw[clen,Qb8,<-hJ'] at T5;have fr5:∀b o,H b=some o->b≠x->b≠S->H5 b=some o:=λb o e _ n=>f5 _ _ (s1 _ _ e) n;have tp5:∀b xs,H b=some (.tup xs)->H5 b=some (.tup xs):=λb xs e=>fr5 _ _ e (Ar e e0 (by intro z;cases z)) (Ar e eS (by intro z;cases z));have ld5:LaidX H5 la S Fn:=by
   refine⟨kvs,fr5 _ _ hla (Ar hla e0 (by intro z;cases z)) (Ar hla eS (by intro z;cases z)),λy=>(hLX y).imp (λ⟨a',rs',h1,h2,h3,h4⟩=>⟨a',rs',h1,fr5 _ _ h2 (Ar h2 e0 (by intro z;cases z)) h4,h3.mono tp5,h4⟩) id⟩
  have stl:(Fh N J').take (J.length+1)=Fh N J:=by
   rw[sts_take (by rw[hJ',Qa3];omega),hJ',List.take_left]
  clear hc1 hc2 p1 T1 clen hc3 ec;refine⟨_,rfl,_,rfl,_,_,rfl,rfl,rfl,_,rfl,B7 (λg=> ?_) (λg=> ?_)⟩
  ·have g:hi - lo=1:=by simpa using g
   obtain⟨pre,ep,lp⟩:=R7 N J';have T5':=T5;rw[ep] at T5';have U:=Th B.n24 ijf;have ta5:=tp5 _ _ B.ea;have A5:=B.ak.mono tp5;have kl:=B.kl;refine⟨_,rfl,ta,_,rfl,SqT.of ta5,λD hD=>Hs (K:=K) (a:=ta) (xs:=rs.map V.ref) (λj σ ys H6=>∃(u v:Option V) (G:List Srt.Pr'),σ=[u,v,some (.int lo),some (.ref x)]/\Same H5 H6/\H6 D=some (.lst ys)/\ys=G.map Srt.pRef/\(∀q∈G,H6 q.1=some (.tup [.int q.2.1,q.2.2]))/\G.map (·.2)=Dm (stF N J') lo (ks.take j)) ⟨none,none,[],rfl,Ac hD,Ab,rfl,λq hq=>by(cases hq),by simp[Dm]⟩ (λj σ ys H6 _ ⟨_,_,_,_,s6,e,_⟩=>⟨SqT.of (s6 _ _ ta5),e⟩) ?_ ?_⟩
   ·rintro j y σ ys H6 Tt hy ⟨u,v,G,rfl,s6,D6,rfl,g1,g2⟩ hT;obtain⟨r,hr',rfl⟩:=map_some hy;obtain⟨k0,hk0,er⟩:=A5.get hr';have jk:j<ks.length:=(List.getElem?_eq_some_iff.mp hk0).1;have okk:=B.ok k0 (mem_of_getElem? hk0);have s7:=Ac (o:= .tup [.int (j:Int),.ref r]) hT;have T7:=Ab (H:=H6) (a:=Tt) (o:= .tup [.int (j:Int),.ref r]);generalize upd H6 Tt (.tup [.int (j:Int),.ref r])=H7 at s7 T7;have S7:=s6.trans s7;have r7:=S7 _ _ er;have D7:=s7 _ _ D6;have gl:G.length<=60:=by
     have e1:=Qc7 length g2;rw[If] at e1;have e2:=Hw (stF N J') lo (ks.take j);rw[Qb0] at e2;omega
    refine⟨Tt,_,rfl,SqT.of T7,rfl,_,_,rfl,_,_,rfl,rfl,?_⟩;refine⟨_,rfl,r,_,1,_,rfl,rfl,SqT.of r7,Am (j:=1) (vs_1 k0),_,rfl,rfl,_,rfl,B7 (λg=> ?_) λg=> ?_⟩
    ·have g:(k0.n:Int)=lo:=by simpa using g
     refine⟨_,rfl,_,rfl,_,rfl,x,S,r,pre,_,N,L,k0,rfl,T5'.same S7,⟨U.lt,U.ls,B.n1,B.n24⟩,r7,okk,λH8 s8=>⟨small (by simp),λz hz=> ?_⟩⟩;have s9:=Ac (o:= .tup [.int (j:Int),Uf (stF N J') k0]) hz;have z9:=Ab (H:=H8) (a:=z) (o:= .tup [.int (j:Int),Uf (stF N J') k0]);have D9:=s9 _ _ (s8 _ _ D7);refine⟨D9,Ap (by simp;omega),_,_,G++[(z,(j:Int),Uf (stF N J') k0)],rfl,λb o e=> ?_,Ab,by rw[map_append];rfl,λq hq=> ?_,?_⟩
     ·rw[Ai (Al e hD)];exact s9 _ _ (s8 _ _ (S7 _ _ e))
     ·rcases mem_append.mp hq with hq|hq
      ·have e:=s9 _ _ (s8 _ _ (s7 _ _ (g1 q hq)));rw[Ai (Ar e D9 (by intro w;cases w))];exact e
      ·rw[mem_singleton.mp hq,Ai (Ar z9 D9 (by intro w;cases w))];exact z9
     ·rw[N5 hk0,Qa2 g,map_append,g2];rfl
    ·have g:¬(k0.n:Int)=lo:=by simpa using g
     exact⟨_,_,G,rfl,S7,D7,rfl,λq hq=>s7 _ _ (g1 q hq),by rw[N5 hk0,Qa1 g,Qc9,g2]⟩
   rintro σ ys H6 ⟨u,v,G,rfl,s6,D6,rfl,g1,g2⟩;rw[If,A5.1,Qb8] at g2;have T6:=T5.same s6;obtain⟨dx6,x6⟩:=T6.ob;obtain⟨_,S6,_⟩:=T6.st;refine⟨la,x,hf,ta,S,D,lo,hi,Fh N J',J.length,u7,u8,u10,rfl,T6,by rw[Qf,hJ',Qa3];omega,λS' H' n1 f' T'=>k D S' G H' ?_⟩;rw[stl] at T';have fr6:∀b o,H b=some o->b≠x->b≠S->H6 b=some o:=λb o e n m=>s6 _ _ (fr5 b o e n m);exact⟨λb o e n m=>f' _ _ (fr6 b o e n m) n,T',tkFree B.tk T6 fr6 n1,⟨_,f' _ _ S6 (Ar S6 x6 (by intro z;cases z))⟩,f' _ _ D6 (Ar D6 x6 (by intro z;cases z)),Al D6 n1,λq hq=>f' _ _ (g1 q hq) (Ar (g1 q hq) x6 (by intro z;cases z)),by rw[g2,Um g,hJ']⟩
  ·have g:¬hi - lo=1:=by simpa using g
   cases d with
   |zero=>exact absurd dp (by show ¬hi - lo<=1;omega)
   |succ d=>
   have p2:(2:Int) ^ (d+1)=2 * 2 ^ d:=by rw[pow_succ];omega
   have pp:(1:Int)<=2 ^ d:=by
    have:=Int.pow_pos (n:=2) (m:=d) (by decide);omega
   rw[p2] at dp;have d6:=B.d6;refine⟨_,rfl,_,rfl,_,_,rfl,rfl,_,_,rfl,rfl,⟨by decide,by decide⟩,?_⟩;refine⟨_,rfl,_,rfl,_,rfl,_,rfl,small (by simp),λq1 hq1=> ?_⟩;have s6:=Ac (o:= .tup [.int lo,.int ((lo+hi) / 2)]) hq1;have e6:=Ab (H:=H5) (a:=q1) (o:= .tup [.int lo,.int ((lo+hi) / 2)]);have T6:=T5.same s6;have ld6:=ld5.same s6;change Ms _ _ _ _;generalize upd H5 q1 (.tup [.int lo,.int ((lo+hi) / 2)])=H6 at s6 e6 T6 ld6;refine⟨_,rfl,la,x,q1,ta,S,N,L,lo,(lo+hi) / 2,Fn,J',rs,ks,rfl,⟨e6,by omega,by omega,by omega,ld6,T6,B.n1,B.n24,B.inn,ijf,λn h1 h2=> ?_,s6 _ _ (tp5 _ _ B.ea),B.ak.mono λr xs e=>s6 _ _ (tp5 _ _ e),B.ok,B.kl⟩,λl1 S1 G1 H7 Q1=> ?_⟩
   ·have b:=B.bd n h1 (by omega);rw[R5 g h2,Qb7,<-append_assoc,<-hJ'] at b;exact b
   obtain⟨dx6,x6⟩:=T6.ob;obtain⟨_,S6,_⟩:=T6.st;obtain⟨dx7,x7⟩:=Q1.tk.ob;obtain⟨_,S17,_⟩:=Q1.tk.st;have tp7:∀b xs,H b=some (.tup xs)->H7 b=some (.tup xs):=λb xs e=>Q1.fr _ _ (s6 _ _ (tp5 _ _ e)) (Ar e e0 (by intro z;cases z)) (Ar e eS (by intro z;cases z));have ld7:LaidX H7 la S1 Fn:=ld6.mv T6 Q1.fr Q1.s0;refine⟨_,rfl,_,rfl,_,rfl,_,rfl,small (by simp),λq2 hq2=> ?_⟩;have s8:=Ac (o:= .tup [.int ((lo+hi) / 2),.int hi]) hq2;have e8:=Ab (H:=H7) (a:=q2) (o:= .tup [.int ((lo+hi) / 2),.int hi]);change Ms _ _ _ _;generalize upd H7 q2 (.tup [.int ((lo+hi) / 2),.int hi])=H8 at s8 e8;refine⟨_,rfl,la,x,q2,ta,S1,N,L,(lo+hi) / 2,hi,Fn,J',rs,ks,rfl,⟨e8,by omega,by omega,by omega,ld7.same s8,Q1.tk.same s8,B.n1,B.n24,B.inn,ijf,λn h1 h2=> ?_,s8 _ _ (tp7 _ _ B.ea),B.ak.mono λr xs e=>s8 _ _ (tp7 _ _ e),B.ok,B.kl⟩,λl2 S2 G2 H9 Q2=> ?_⟩
   ·have b:=B.bd n (by omega) h2;rw[Nv g (by omega),Qb7,<-append_assoc,<-hJ'] at b;exact b
   have xS1:x≠S1:=Ar x7 S17 (by intro z;cases z);have f9:∀b o,H7 b=some o->b≠x->b≠S1->H9 b=some o:=λb o e n m=>Q2.fr _ _ (s8 _ _ e) n m;have l19:=f9 _ _ Q1.hl (Ar Q1.hl x7 (by intro z;cases z)) Q1.ls;have S9:∃o,H9 S=some o:=let ⟨o,e⟩:=Q1.so;⟨o,f9 _ _ e (Ar eS e0 (by intro z;cases z)) (Al S6 Q1.s0)⟩
   have fr9:∀b o,H b=some o->b≠x->b≠S->H9 b=some o:=λb o e n m=>by
    have e6:=s6 _ _ (fr5 b o e n m);exact f9 _ _ (Q1.fr _ _ e6 n m) n (Al e6 Q1.s0)
   have t1:=Qc7 length Q1.gt;have t2:=Qc7 length Q2.gt;rw[If] at t1 t2;have m1:=Gw N Fn B.kl d lo ((lo+hi) / 2) J';have m2:=Gw N Fn B.kl d ((lo+hi) / 2) hi J';have m3:2 ^ d<=2 ^ 6:=Nat.pow_le_pow_right (by decide) (by omega);refine⟨l1,l2,_,_,rfl,rfl,l19,Q2.hl,le_of_lt (Js (by simp only[Qa3,If];omega)),λl hl=> ?_⟩;have sA:=Ac (o:= .lst (G1.map Srt.pRef++G2.map Srt.pRef)) hl;have eA:=Ab (H:=H9) (a:=l) (o:= .lst (G1.map Srt.pRef++G2.map Srt.pRef));change tTailT C _ _ _;generalize upd H9 l (.lst (G1.map Srt.pRef++G2.map Srt.pRef))=HA at sA eA;have TA:=Q2.tk.same sA;obtain⟨dxA,xA⟩:=TA.ob;refine⟨la,x,hf,ta,S2,l,lo,hi,Fh N J',J.length,u7,u8,_,rfl,TA,by rw[Qf,hJ',Qa3];omega,λS' H' n1 f' T'=>k l S' (G1++G2) H' ?_⟩;rw[stl] at T';have frA:∀b o,H b=some o->b≠x->b≠S->HA b=some o:=λb o e n m=>sA _ _ (fr9 b o e n m);have SA:∃o,HA S=some o:=let ⟨o,e⟩:=S9;⟨o,sA _ _ e⟩
   refine⟨λb o e n m=>f' _ _ (frA b o e n m) n,T',?_,let ⟨o,e⟩:=SA;⟨o,f' _ _ e (Ar eS e0 (by intro z;cases z))⟩,?_,Al eA n1,λq hq=> ?_,?_⟩
   ·cases e:H S' with
    |none=>rfl
    |some o=>
     rw[frA S' o e (λz=>by rw[z,xA] at n1;cases n1) (λz=>by obtain⟨o',e'⟩:=SA;rw[z,e'] at n1;cases n1)] at n1;cases n1
   ·rw[map_append];exact f' _ _ eA (Ar eA xA (by intro z;cases z))
   ·have eq9:HA q.1=some (.tup [.int q.2.1,q.2.2]):=by
     rcases mem_append.mp hq with hq|hq
     ·have e7:=Q1.pr q hq;exact sA _ _ (f9 _ _ e7 (Ar e7 x7 (by intro z;cases z)) (Ar e7 S17 (by intro z;cases z)))
     ·exact sA _ _ (Q2.pr q hq)
    exact f' _ _ eq9 (Ar eq9 xA (by intro z;cases z))
   ·rw[map_append,Q1.gt,Q2.gt,hJ']
    conv=>rhs;unfold Dp
    rw[Qa1 g]
end K29
namespace K29
variable{P:Program}{w:World}{K:Frag}{mg:Str->Option Value}{base:Heap}{C I:Addr}
open PySem L2 Wk
open M24
theorem Lx{α β:Type}{f g:α->List β}:∀l:List α,(l.flatMap λx=>f x++g x).length=(l.flatMap f).length+(l.flatMap g).length
 |[]=>rfl
 |x::l=>by simp only[Qb7,Qa3,Lx l];omega
theorem Fa{P:List (Int×Int)}:∀{l:List (Int×Int)},(∀x∈l,∀y∈P,y≠x)->(l.flatMap λx=>P.filter λy=>decide (y=x)).length=0
 |[],_=>rfl
 |x::l,h=>by
  rw[Qb7,Qa3,Fa λz hz=>h z (Qa8 _ hz),Nat.add_zero,List.length_eq_zero_iff,List.filter_eq_nil_iff];intro y hy e;exact h x Qa9 y hy (Qc2 e)
theorem Lz:∀(d:Nat) (f l lo hi n:Int),f<l->l - f<=2 ^ d->f<=n->n<l->((pth d f l n).flatMap λx=>(pin d f l lo hi).filter λy=>decide (y=x)).length<=1
 |0,f,l,lo,hi,n,h1,h2,h3,h4=>by
  unfold pin pth;split
  ·simp
  ·simp
 |d+1,f,l,lo,hi,n,h1,h2,h3,h4=>by
  have p2:(2:Int) ^ (d+1)=2 * 2 ^ d:=by rw[pow_succ];omega
  rw[p2] at h2;have up:∀x∈(if l - f=1 then [] else if n<(f+l) / 2 then pth d f ((f+l) / 2) n else pth d ((f+l) / 2) l n),x≠(f,l):=by
   intro x hx;by_cases e:l - f=1
   ·rw[Qa2 e] at hx;cases hx
   ·rw[Qa1 e] at hx;by_cases c:n<(f+l) / 2
    ·rw[Qa2 c] at hx;have:=Fz d _ _ _ h3 c x hx;intro q;rw[q] at this;simp only at this;omega
    ·rw[Qa1 c] at hx;have:=Fz d _ _ _ (Int.not_lt.mp c) h4 x hx;intro q;rw[q] at this;simp only at this;omega
  unfold pin;by_cases c:lo<=f/\l<=hi
  ·rw[Qa2 c];unfold pth;rw[Qb7,Qa3,Fa λx hx y hy=>by rw[mem_singleton.mp hy];exact(up x hx).symm];simp
  ·rw[Qa1 c];by_cases c2:l<=lo\/hi<=f
   ·rw[Qa2 c2,Fa λx _ y hy=>by cases hy];exact Qc5 _
   ·rw[Qa1 c2];have e:¬l - f=1:=by omega
    have i1:=Jh d f ((f+l) / 2) lo hi (by omega) (by omega);have i2:=Jh d ((f+l) / 2) l lo hi (by omega) (by omega);simp only[filter_append];rw[Lx];have top:∀y∈pin d f ((f+l) / 2) lo hi,y≠(f,l):=λy hy q=>by have:=i1 y hy;rw[q] at this;simp only at this;omega
    have top2:∀y∈pin d ((f+l) / 2) l lo hi,y≠(f,l):=λy hy q=>by have:=i2 y hy;rw[q] at this;simp only at this;omega
    have z1:((pin d f ((f+l) / 2) lo hi).filter λy=>decide (y=(f,l)))=[]:=List.filter_eq_nil_iff.mpr λy hy q=>top y hy (Qc2 q);have z2:((pin d ((f+l) / 2) l lo hi).filter λy=>decide (y=(f,l)))=[]:=List.filter_eq_nil_iff.mpr λy hy q=>top2 y hy (Qc2 q);by_cases c3:n<(f+l) / 2
    ·rw[R5 e c3,Qb7,Qb7,z1,z2,nil_append,nil_append];have w:=Fa (P:=pin d ((f+l) / 2) l lo hi) (l:=pth d f ((f+l) / 2) n) λx hx y hy q=>by
      have a1:=i2 y hy;have a2:=Fz d _ _ _ h3 c3 x hx;rw[q] at a1;omega
     have ih:=Lz d f ((f+l) / 2) lo hi n (by omega) (by omega) h3 c3;omega
    ·rw[Nv e c3,Qb7,Qb7,z1,z2,nil_append,nil_append];have w:=Fa (P:=pin d f ((f+l) / 2) lo hi) (l:=pth d ((f+l) / 2) l n) λx hx y hy q=>by
      have a1:=i1 y hy;have a2:=Fz d _ _ _ (Int.not_lt.mp c3) h4 x hx;rw[q] at a1;omega
     have ih:=Lz d ((f+l) / 2) l lo hi n (by omega) (by omega) (by omega) h4;omega
theorem Ip{α β γ:Type}{f:α->List β}{c:γ}:∀l:List α,(l.flatMap λx=>(f x).map λ_=>c).length=(l.flatMap f).length
 |[]=>rfl
 |x::l=>by simp only[Qb7,Qa3,If,Ip l]
theorem Rv{sz:Int}{n:Int}(h0:0<sz)(h1:sz<=64)(h2:0<=n)(h3:n<sz):∀L:List Life,((pth 6 0 sz n).flatMap (Dr sz L)).length<=L.length
 |[]=>by
  have:(pth 6 0 sz n).flatMap (Dr sz [])=[]:=List.flatMap_eq_nil_iff.mpr λx _=>rfl;rw[this];exact le_refl _
 |l::L=>by
  have e:Dr sz (l::L)=λx=>(((Eu sz l).filter λy=>decide (y=x)).map λ_=>l.t4)++Dr sz L x:=by
   funext x;unfold Dr;rw[Qb7]
  rw[e,Lx,Ip,Qb4];have a1:=Lz 6 0 sz ((l.s:Int)+1) ((l.e:Int)+1) n h0 (by omega) h2 h3;have a2:=Rv h0 h1 h2 h3 L;unfold Eu;omega
theorem laid_in{N:Nat}{ds:List Dd}(hR:Db N ds)(y:Int×Int):InN N (Ze ds y):=λt ht=>by
 obtain⟨l,hl,_,e⟩:=mem_laid.mp ht;have:=Il hR hl;rw[<-e];exact⟨this.2.1,this.2.2.1⟩
def T0:Sp:=λvs H Q _=>∃(h ta:Addr) (N:Nat) (ds:List Dd) (rs:List Addr) (ks:List Ak),vs=[.ref h,.ref ta]/\HistAt H h N ds/\Db N ds/\1<=N/\N<=24/\H ta=some (.tup (rs.map V.ref))/\AksAt H rs ks/\(∀k∈ks,AkOk N ds.length k)/\ks.length<=60/\∀r H',Same H H'->H' r=some (.tup (ks.map (Iu N ds)))->Q (.ref r) H'
theorem scHalf:Av ["history","asks","whole","told"] ["history","asks"] (Ah V8):=⟨rfl,rfl,rfl,by decide+kernel,rfl,by decide+kernel,by decide+kernel⟩
theorem ok_Half{f:Addr}{fd:FuncData}(F:Fun K "answers_by_halves" "answers_by_halves" V8 f fd)(T:Txt K mg C I)(GLaid:Cl P w K mg base 13 "joins_laid" ["history"] Tj){fInit:FuncData}(bInit:Binds K fInit ["self","many"] [])(GInit:FnOk P w K mg base CX0 1 I fInit ["self","many"] (U3 C))(GTold:Cl P w K mg base 13 "told_in" ["laid","takes","half","asks"] (Vd C 7)):
  FnOk P w K mg base CX0 14 f fd ["history","asks"] T0:=by
 refine F.ok scHalf (λvs H Q E h=> ?_) (λcdv A outer s H vs Q E hr h=> ?_)
 ·obtain⟨_,_,_,_,_,_,rfl,_⟩:=h;rfl
 ·obtain⟨h,ta,N,ds,rs,ks,rfl,hist,hR,N1,N24,hta,hA,ok,k60,k⟩:=h;refine⟨_,Ae (Aq (i:=2) scHalf.nd rfl (Or.inl rfl) (A1 (Aa Af (Aa (Au Bi (A0 Ay (by rfl) T.len PySem.boot_len (Aa (Ao At (pv 0) Af (λ_ _=>rfl)) Ad)) Af) Ad))))
   (Ae (Aq (i:=3) scHalf.nd rfl (Or.inl rfl) (A7 GTold hr (Aa (A7 GLaid hr (Aa (pv 0) Ad)) (Aa (pe_make T.mkC GInit (hr.mono (by decide)) rfl T.mgC bInit .nil C7 (Aa (Ao At (pv 0) Af (λ_ _=>rfl)) Ad)) (Aa (pv 2) (Aa (pv 1) Ad))))))
   (Ag (As (Bb Ba (by rfl) T.tuple (by decide+kernel) (Aa (Cg (T:=["number","answer"]) (F:=[]) (js:=[]) (cs (osc:=Ah V8)) rfl (Cd (A0 Srt.call_sortedP (by rfl) T.sorted (by decide+kernel) (Aa (pv 3) Ad))) (λ_ _ _ _ _=>Fk K 2 rfl rfl (An (Aj (i:=0) (show (["number","answer"]:List Str).Nodup by decide+kernel) rfl (Or.inl rfl)) (An (Aj (i:=1) (show (["number","answer"]:List Str).Nodup by decide+kernel) rfl (Or.inl rfl)) Bk))) (λ_ _ _ _ _=>Ce) (λ_ _ _ _ _=>pv 1)) Ad))))),?_⟩
  obtain⟨tp,rs0,eh,et,hdd⟩:=id hist;have d60:=hR.len;have ll:(rs0.map V.ref).length=ds.length:=by rw[If,hdd.1]
  refine⟨_,rfl,h,_,1,_,rfl,rfl,SqT.of eh,Am (j:=1) rfl,tp,_,rfl,.inr (SqT.of et),_,_,rfl,rfl,small (by simp),λwq hw=> ?_⟩;rw[ll];have s1:=Ac (o:= .tup [.int 0,.int ((ds.length:Int)+1)]) hw;have w1:=Ab (H:=H) (a:=wq) (o:= .tup [.int 0,.int ((ds.length:Int)+1)]);show Xc _ _ _ _ _;generalize upd H wq (.tup [.int 0,.int ((ds.length:Int)+1)])=H1 at s1 w1;refine⟨_,rfl,h,N,ds,rfl,hist.same s1,hR,λd H2 s2 ld=> ?_⟩;have S2:=s1.trans s2;refine⟨_,rfl,h,_,0,_,rfl,rfl,SqT.of (S2 _ _ eh),Am (j:=0) rfl,λx dx hx hdx hxd=>⟨x,dx,(N:Int),rfl,Ab,by omega,by omega,λS H5 hS hT5 f5=>⟨rfl,?_⟩⟩⟩;have s5:Same H2 H5:=λb o e=>f5 b o (by rw[Ai (Al e hx),Ai (Al e hdx)];exact e) (Al e hx);have nS:H2 S=none:=by
   cases e:H2 S with
   |none=>rfl
   |some o=>
    rw[Ai (Al e hx),Ai (Al e hdx),e] at hS;cases hS
  have S5:=S2.trans s5;have e3:Fh N []=[Df (N:Int)]:=rfl;rw[<-e3] at hT5;obtain⟨kvs,hd2,ha2⟩:=ld;refine⟨_,rfl,_,rfl,d,x,wq,ta,S,N,ds.length,0,(ds.length:Int)+1,Ze ds,[],rs,ks,rfl,⟨s5 _ _ (s2 _ _ w1),by omega,(by show (ds.length:Int)+1 - 0<=64;omega),by decide,⟨kvs,s5 _ _ hd2,λy=>(ha2 y).imp (λ⟨a,rs',h1,h2,h3⟩=>⟨a,rs',h1,s5 _ _ h2,h3.mono λr xs e=>s5 _ _ e,Al h2 nS⟩) id⟩,hT5,N1,N24,laid_in hR,λt ht=>by(cases ht),λn h1 h2=> ?_,S5 _ _ hta,hA.mono λr xs e=>S5 _ _ e,ok,k60⟩,λl S' G H6 Q6=> ?_⟩
  ·have z:=Rv (sz:=(ds.length:Int)+1) (n:=n) (by omega) (by omega) h1 h2 (Be (ds.map toD) (ds.map toD).length);have z2:=Gp (ds.map toD) (ds.map toD).length;rw[If] at z2;rw[nil_append];exact le_trans z (by rw[If];omega)
  have nx:H2 x=none:=by
   cases e:H2 x with
   |none=>rfl
   |some o=>rw[e] at hx;cases hx
  have s6:Same H H6:=λb o e=>Q6.fr _ _ (S5 _ _ e) (Al (S2 _ _ e) nx) (Al (S2 _ _ e) nS);have pm:(G.map (·.2)).Perm (Gz (Iu N ds) ks):=by rw[Q6.gt];exact Wo hR N24 ok
  have gl:G.length=ks.length:=by
   have:=pm.length_eq;rw[If] at this;rw[this];unfold Gz;rw[If,List.length_zipIdx]
  have nd:(G.map (·.2.1)).Nodup:=by
   have e:G.map (·.2.1)=(G.map (·.2)).map (·.1):=by rw[map_map];rfl
   rw[e];exact(pm.map _).nodup_iff.mpr (Ln _ _)
  refine⟨_,rfl,l,G,rfl,SqL.of Q6.hl,λq hq=>SqT.of (Q6.pr q hq),nd,by omega,λm ps hm perm srt=> ?_⟩;have s7:=Ac (o:= .lst (ps.map Srt.pRef)) hm;have m7:=Ab (H:=H6) (a:=m) (o:= .lst (ps.map Srt.pRef));have fin:ps.map (λq=>q.2.2)=ks.map (Iu N ds):=by
   have p2:(ps.map (·.2)).Perm (Gz (Iu N ds) ks):=(perm.map _).trans pm;have:=U8 p2 (by rw[Qc4];exact srt);rw[<-this,map_map];rfl
  have pl:ps.length=ks.length:=by rw[perm.length_eq,gl]
  have pr7:∀q∈ps,upd H6 m (.lst (ps.map Srt.pRef)) q.1=some (.tup [.int q.2.1,q.2.2]):=λq hq=>s7 _ _ (Q6.pr q (perm.mem_iff.mp hq));have S7:=s6.trans s7;refine⟨m,rfl,⟨_,SqL.of m7⟩,λD hD=> ?_⟩;generalize upd H6 m (.lst (ps.map Srt.pRef))=H7 at s7 m7 pr7 S7 hD ⊢;refine Cz (K:=K) (a:=m) (xs:=ps.map Srt.pRef) (λj σ ys H8=>∃(u v:Option V),σ=[u,v]/\ys=(ps.take j).map (λq=>q.2.2)/\Same H7 H8/\H8 D=some (.lst ys)) ⟨none,none,rfl,rfl,Ac hD,Ab⟩ (λj σ ys H8 _ ⟨_,_,_,_,e,f⟩=>⟨SqL.of (e _ _ m7),f⟩) ?_ ?_
  ·rintro j y σ ys H8 hy ⟨u,v,rfl,rfl,s8,D8⟩;obtain⟨q,hq,rfl⟩:∃q,ps[j]? =some q/\y=Srt.pRef q:=by
    rw[getElem?_map] at hy;cases e:ps[j]? with
    |none=>rw[e] at hy;cases hy
    |some z=>rw[e] at hy;exact⟨z,rfl,(Option.some.inj hy).symm⟩
   have e8:=s8 _ _ (pr7 q (mem_of_getElem? hq));have jl:j<ps.length:=(List.getElem?_eq_some_iff.mp hq).1;refine⟨q.1,_,rfl,SqT.of e8,rfl,_,_,rfl,_,_,rfl,rfl,?_⟩;refine⟨_,rfl,D8,Ap (by rw[If,Qb0];omega),_,_,rfl,?_,A8 s8 hD,Ab⟩;rw[Bu hq,map_append];rfl
  rintro σ ys H8 ⟨u,v,rfl,rfl,s8,D8⟩;rw[If,Qb8,fin] at D8;exact⟨D,_,rfl,.inl ⟨SqL.of D8,λz hz=>k z _ ((S7.trans s8).trans (Ac hz)) Ab⟩⟩
end K29
namespace PySem
open Builtin
abbrev zL1(h:Heap)(a:Addr):Heap:=h.push {cls:= .type "list_iterator",data:= .fields #[.ref a,.int 0 0]}
end PySem
namespace PySem
namespace F
theorem lk_zip_keys:typeLookup (.type "zip") "keys"=pure none:=by rw[typeLookup_type,builtinLookup_eq_fast];kernel_rfl
theorem lk_zip_getattr:typeLookup (.type "zip") "__getattr__"=pure none:=by rw[typeLookup_type,builtinLookup_eq_fast];kernel_rfl
theorem entry_zip_ga:entryFor table "zip.__getattribute__"=some Builtin.«object.__getattribute__» :=
 entryFor_alias (id':="object.__getattribute__") (by kernel_rfl) (by first|rfl|decide+kernel) (by decide+kernel) (by kernel_rfl)
end F
section
variable{prog:Program}{w:World}{A:Around}{E:Value->Shared->Prop}{h:Heap}{g:Array GenState}{d:Drawn}{t:Nat}{os:OsState}{a:Addr}{its:Array Value}
theorem Sj{tk:Tok}{Q:Fin->Shared->Prop}(hx:h.get? a=some {cls:= .type "zip",data:= .fields its})(hh:A.handled=none)(hq:∀(h':Heap) (e:Addr) (t':Nat),(∀b o,h.get? b=some o->h'.get? b=some o)->(∃o,h'.get? e=some o/\o.cls= .type "AttributeError")->E (.ref e) ⟨h',g,d,t',os⟩):
  wpAny (model prog w) A (Builtin.«object.__getattribute__» ⟨[.ref a,.str "keys" tk],[]⟩) Q E ⟨h,g,d,t,os⟩:=by
 have hT:(⟨h,g,d,t,os⟩:Shared).TypeIs (.ref a) "zip":=⟨_,hx,rfl⟩
 have f4:=F.lk_zip_keys
 repeat (any_goals (first|assumption|wp_step))
 exact T9 (by size_fits) hh hq
theorem Tv{tk:Tok}{R:Result->Shared->Prop}(hx:h.get? a=some {cls:= .type "zip",data:= .fields its})(hh:A.handled=none)(hq:∀(h':Heap) (e:Addr) (t':Nat),(∀b o,h.get? b=some o->h'.get? b=some o)->(∃o,h'.get? e=some o/\o.cls= .type "AttributeError")->R (.error (.ref e)) ⟨h',g,d,t',os⟩):
  codeAny (model prog w) A (.call (.builtin "zip.__getattribute__") ⟨[.ref a,.str "keys" tk],[]⟩) R ⟨h,g,d,t,os⟩:=
 codeAny_call_builtin F.slot_zip_getattribute.plain F.entry_zip_ga (F.slot_zip_getattribute.check _ _ _ _ _ _ _ _ (show (⟨h,g,d,t,os⟩:Shared).TypeIs (.ref a) "zip" from⟨_,hx,rfl⟩) (F.args_zip_getattribute_2 _ _) (Sj hx (by simpa using hh) hq))
theorem keys_byZ{tk:Tok}{Q:Value->Shared->Prop}(hx:h.get? a=some {cls:= .type "zip",data:= .fields its})(hh:A.handled=none)(hq:∀(h':Heap) (e:Addr) (t':Nat),(∀b o,h.get? b=some o->h'.get? b=some o)->(∃o,h'.get? e=some o/\o.cls= .type "AttributeError")->E (.ref e) ⟨h',g,d,t',os⟩):
  wpAny (model prog w) A (getAttrBy (.ref a) (.str "keys" tk) false) Q E ⟨h,g,d,t,os⟩:=by
 have hT:(⟨h,g,d,t,os⟩:Shared).TypeIs (.ref a) "zip":=⟨_,hx,rfl⟩
 have f2:=F.slot_zip_getattribute.lookup;have f3:=F.slot_zip_getattribute.bind (.ref a)
 repeat (any_goals (first|assumption|wp_step))
 refine Tv hx hh λh' e t' k ⟨o,ho,hc⟩=> ?_;have hT2:(⟨h',g,d,t',os⟩:Shared).TypeIs (.ref e) "AttributeError":=⟨_,ho,hc⟩
 show wpAny _ _ (getattributeRaised _ _ _ _ _ _ _) _ _ _;unfold getattributeRaised;refine Gt (wpAny_isInstance hT2 Er ?_);simp only[Qe7];refine Gt (m:=hookBehind _ _) (wpAny_of_eq (show hookBehind (.type "zip") none=pure none from F.lk_zip_getattr) ?_);unfold hookOrError;unfold attributeErrorLeaves;simp only[Bool.not_false,Qe7];exact Gt (wpAny_throw (hq h' e t' k ⟨o,ho,hc⟩))
theorem To{Q:Option Value->Shared->Prop}(hx:h.get? a=some {cls:= .type "zip",data:= .fields its})(hh:A.handled=none)(hq:∀(h':Heap) (t':Nat),(∀b o,h.get? b=some o->h'.get? b=some o)->Q none ⟨h',g,d,t',os⟩):
  wpAny (model prog w) A (getAttr? (.ref a) "keys") Q E ⟨h,g,d,t,os⟩:=by
 unfold getAttr? getAttrBy?;refine Gt (wpAny_mkText ?_);refine Gt (wpAny_attempt (keys_byZ hx hh λh' e t' k ⟨o,ho,hc⟩=> ?_));have hT2:(⟨h',g,d,t',os⟩:Shared).TypeIs (.ref e) "AttributeError":=⟨_,ho,hc⟩
 dsimp only;refine Gt (wpAny_isInstance hT2 Er ?_);simp only[Qe7];exact Qa0 (hq h' t' k)
end
end PySem
namespace PySem
open Builtin
def Ea(h:Heap)(z TI TO T:Addr)(f:Bool):Prop:=h.get? z=some {cls:= .type "zip",data:= .fields #[rawInt T,.bool f,.bool false,.ref TI,.ref TO]}
section
variable{prog:Program}{w:World}{A:Around}{E:Value->Shared->Prop}{s:Shared}{z TI TO i1 i2:Addr}{f1 f2:List Addr}{n1 n2:Nat}{P1 P2:Nat->Value->Prop}{S1 S2:Nat->Heap->Prop}
theorem z_alive{a:Addr}{o:Obj}{Q:Option Obj->Shared->Prop}(ho:s.heap.get? a=some o)(h:Q (some o) s):wpAny (model prog w) A (loadIfAlive a) Q E s:=by
 have h':Q (s.heap.get? a) s:=by rw[ho];exact h
 exact λ_ _ _=>h'
theorem Od{T:Addr}{f:Bool}{oT:Obj}{Q:Bool->Shared->Prop}(hZ:Ea s.heap z TI TO T f)(hT:s.heap.get? T=some oT)(h:∀h',Ea h' z TI TO T true->SameBut z s.heap h'->Q false {s with heap:=h'}):wpAny (model prog w) A (Builtin.SmallTypes.ownedTupleIsFree (.ref z)) Q E s:=by
 unfold Builtin.SmallTypes.ownedTupleIsFree;refine Gt (Qb6 hZ rfl (x:=rawInt T) rfl ?_);show wpAny _ _ (loadIfAlive ((T:Int).toNat) >>=_) _ _ _;rw[Qd4];refine Gt (z_alive hT ?_);simp only[Option.isNone_some,Qf9,if_false];refine Gt (Qb6 hZ rfl (x:= .bool f) rfl ?_);cases f with
 |true=>
  rw[Qa1 (show ¬((Value.bool true !=Value.bool true)=true) from Bool.false_ne_true)];exact Qa0 (h s.heap hZ (SameBut.refl _ _))
 |false=>
  rw[Qa2 (show (Value.bool false !=Value.bool true)=true from rfl)];refine Gt (Qe2 hZ (by simp) λh₃ he₃ hs₃=>Qa0 (h h₃ he₃ hs₃))
theorem X9{k T:Nat}{f:Bool}{oT:Obj}{Q:Value->Shared->Prop}(D:ZAp z TI TO i1 i2 f1 f2)(D1:Draws prog w A i1 f1 n1 P1 S1)(D2:Draws prog w A i2 f2 n2 P2 S2)(hZ:Ea s.heap z TI TO T f)(hT:s.heap.get? T=some oT)(pI:IsPair s.heap TI (.ref i1) (.ref i2))(t1:S1 k s.heap)(t2:S2 k s.heap)(l1:k<n1)(l2:k<n2)(hQ:∀h' tk x y,P1 k x->P2 k y->Ea h' z TI TO T true->S1 (k+1) h'->S2 (k+1) h'->IsPair h' s.heap.objs.size x y->
   (∀c o,c≠z->c≠i1->c≠i2->s.heap.get? c=some o->h'.get? c=some o)->Q (.ref s.heap.objs.size) {s with heap:=h',toks:=tk}):
  wpAny (model prog w) A (Builtin.«zip.__next__» ⟨[.ref z],[]⟩) (λfin s'=>∃v,fin= .done (.ret v)/\Q v s') E s:=by
 show wpAny _ _ (field (.ref z) 2 >>=λ_=>_) _ _ _;refine Gt (Qb6 hZ rfl (x:= .bool false) rfl ?_);show wpAny _ _ (field (.ref z) 3 >>=λ_=>_) _ _ _;refine Gt (Qb6 hZ rfl (x:= .ref TI) rfl ?_);refine Gt (Qd2 pI rfl ?_);show wpAny _ _ (Builtin.SmallTypes.ownedTupleIsFree (.ref z) >>=λ_=>_) _ _ _;refine Gt (Od hZ hT λg1 zg1 k1=> ?_);simp only[Qf9,if_false];refine Gt ?_;simp only[List.forIn_toArray,forIn_cons,forIn_nil];refine Gt (Gt (Qb9 ?_));show wpAny _ _ (Builtin.SmallTypes.nextOf (.ref i1) >>=λ_=>_) _ _ _;refine Gt (D1.item k _ _ _ l1 (D1.frame _ _ _ t1 λc hc o e=>k1.extBut _ _ (λq=>D.b2 (q▸hc)) e) λx g2 tk2 px sg2 k2=>Qa0 ?_);refine Qa0 ?_;refine Gt (Gt (Qb9 ?_));show wpAny _ _ (Builtin.SmallTypes.nextOf (.ref i2) >>=λ_=>_) _ _ _;have t2':S2 k g2:=D2.frame _ _ _ t2 λc hc o e=>k2.extBut _ _ (λq=>D.b6 (q▸hc)) (k1.extBut _ _ (λq=>D.b3 (q▸hc)) e);refine Gt (D2.item k _ _ _ l2 t2' λy g3 tk3 py sg3 k3=>Qa0 ?_);refine Qa0 (Qa0 ?_);show wpAny _ _ (newTuple [x,y] >>=λ_=>_) _ _ _;refine Gt (wpAny_newTuple ?_);have sz:g3.objs.size=s.heap.objs.size:=by rw[k3.1,k2.1,k1.1]
 have zg3:Ea g3 z TI TO T true:=k3.extBut _ _ D.a4.symm (k2.extBut _ _ D.a3.symm zg1);have kk:∀c o,c≠z->c≠i1->c≠i2->s.heap.get? c=some o->g3.get? c=some o:=λc o c1 c3 c4 e=>k3.extBut _ _ c4 (k2.extBut _ _ c3 (k1.extBut _ _ c1 e));have u1:S1 (k+1) g3:=D1.frame _ _ _ sg2 λc hc o e=>k3.extBut _ _ (λq=>D.b7 (q▸hc)) e;refine Qa0 ⟨_,rfl,?_⟩;show Q (.ref g3.objs.size) _;rw[sz];refine hQ _ _ x y px py (Lt _ zg3) (D1.frame _ _ _ u1 λc hc o e=>Lt _ e) (D2.frame _ _ _ sg3 λc hc o e=>Lt _ e) ?_ λc o c1 c3 c4 e=>Lt _ (kk c o c1 c3 c4 e);rw[<-sz];exact Qa5 _ rfl
theorem zip_endK{T:Nat}{f:Bool}{oT:Obj}{Q:Fin->Shared->Prop}(D:ZAp z TI TO i1 i2 f1 f2)(D1:Draws prog w A i1 f1 n1 P1 S1)(hZ:Ea s.heap z TI TO T f)(hT:s.heap.get? T=some oT)(pI:IsPair s.heap TI (.ref i1) (.ref i2))(t1:S1 n1 s.heap)(hE:∀h' tk e,(∀c o,c≠z->c≠TO->c≠i1->c≠i2->s.heap.get? c=some o->h'.get? c=some o)->(∃o,h'.get? e=some o/\o.cls= .type "StopIteration")->E (.ref e) {s with heap:=h',toks:=tk}):
  wpAny (model prog w) A (Builtin.«zip.__next__» ⟨[.ref z],[]⟩) Q E s:=by
 show wpAny _ _ (field (.ref z) 2 >>=λ_=>_) _ _ _;refine Gt (Qb6 hZ rfl (x:= .bool false) rfl ?_);show wpAny _ _ (field (.ref z) 3 >>=λ_=>_) _ _ _;refine Gt (Qb6 hZ rfl (x:= .ref TI) rfl ?_);refine Gt (Qd2 pI rfl ?_);show wpAny _ _ (Builtin.SmallTypes.ownedTupleIsFree (.ref z) >>=λ_=>_) _ _ _;refine Gt (Od hZ hT λg1 zg1 k1=> ?_);simp only[Qf9,if_false];refine Gt ?_;simp only[List.forIn_toArray,forIn_cons,forIn_nil];refine Gt (Gt (Qb9 ?_));show wpAny _ _ (Builtin.SmallTypes.nextOf (.ref i1) >>=λ_=>_) _ _ _;refine Gt (D1.done _ _ _ (D1.frame _ _ _ t1 λc hc o e=>k1.extBut _ _ (λq=>D.b2 (q▸hc)) e) λg2 e k2 he=> ?_);exact hE g2 _ e (λc o c1 _ c3 _ q=>k2 _ _ c3 (k1.extBut _ _ c1 q)) he
theorem Jp{k T:Nat}{f:Bool}{oT:Obj}{Q:Option Value->Shared->Prop}(D:ZAp z TI TO i1 i2 f1 f2)(D1:Draws prog w A.in1 i1 f1 n1 P1 S1)(D2:Draws prog w A.in1 i2 f2 n2 P2 S2)(hZ:Ea s.heap z TI TO T f)(hT:s.heap.get? T=some oT)(pI:IsPair s.heap TI (.ref i1) (.ref i2))(t1:S1 k s.heap)(t2:S2 k s.heap)(l1:k<n1)(l2:k<n2)(hQ:∀h' tk x y,P1 k x->P2 k y->Ea h' z TI TO T true->S1 (k+1) h'->S2 (k+1) h'->IsPair h' s.heap.objs.size x y->
   (∀c o,c≠z->c≠i1->c≠i2->s.heap.get? c=some o->h'.get? c=some o)->Q (some (.ref s.heap.objs.size)) {s with heap:=h',toks:=tk}):
  wpAny (model prog w) A (pyNext (.ref z)) Q E s:=by
 have tz:s.TypeIs (.ref z) "zip":=⟨_,hZ,rfl⟩
 unfold pyNext;exact Gt (wpAny_attempt (Qc1 (name:=Str.ofString "__next__") tz F.slot_zip_next (Qd0 F.slot_zip_next tz F.entry_zip_next
   (X9 D D1 D2 hZ hT pI t1 t2 l1 l2 λh' tk x y a1 a2 a3 a4 a5 a6 a7=>Qa0 (hQ h' tk x y a1 a2 a3 a4 a5 a6 a7)) (F.args_zip_next_1 _))))
theorem Kd{T:Nat}{f:Bool}{oT:Obj}{Q:Option Value->Shared->Prop}(D:ZAp z TI TO i1 i2 f1 f2)(D1:Draws prog w A.in1 i1 f1 n1 P1 S1)(hZ:Ea s.heap z TI TO T f)(hT:s.heap.get? T=some oT)(pI:IsPair s.heap TI (.ref i1) (.ref i2))(t1:S1 n1 s.heap)(hQ:∀h' tk,(∀c o,c≠z->c≠TO->c≠i1->c≠i2->s.heap.get? c=some o->h'.get? c=some o)->Q none {s with heap:=h',toks:=tk}):
  wpAny (model prog w) A (pyNext (.ref z)) Q E s:=by
 have tz:s.TypeIs (.ref z) "zip":=⟨_,hZ,rfl⟩
 unfold pyNext;refine Gt (wpAny_attempt (Qc1 (name:=Str.ofString "__next__") tz F.slot_zip_next (Qd0 F.slot_zip_next tz F.entry_zip_next (zip_endK D D1 hZ hT pI t1 λh' tk e hk he=> ?_) (F.args_zip_next_1 _))));obtain⟨o,ho,hc⟩:=he;exact Gt (wpAny_isInstance (T:="StopIteration") (b:=true) ⟨o,ho,hc⟩ isSubtype_stop (Qa0 (hQ _ _ hk)))
end
abbrev yL2(h:Heap)(a b:Addr):Heap:=(zL1 h a).push {cls:= .type "tuple_iterator",data:= .fields #[.ref b,.int 0 0]}
abbrev yL3(h:Heap)(a b:Addr):Heap:=(yL2 h a b).push {cls:= .type "tuple",data:= .seq #[.ref h.objs.size,.ref (zL1 h a).objs.size]}
abbrev yL4(h:Heap)(a b:Addr):Heap:=(yL3 h a b).push {cls:= .type "tuple",data:= .seq #[.none,.none]}
abbrev yL5(h:Heap)(a b:Addr):Heap:=(yL4 h a b).push {cls:= .type "zip",data:= .fields #[.none,.bool false,.bool false,.ref (yL2 h a b).objs.size,.ref (yL3 h a b).objs.size]}
theorem Pa(a b:Addr)(xs ys:Array Value):
  Meets (Builtin.«zip.__new__» ⟨[.type "zip",.ref a,.ref b],[]⟩) (λ_ R s=>s.heap.IsList a xs/\s.heap.IsTuple b ys/\R (.ok (.ret (.ref (yL4 s.heap a b).objs.size))) {s with heap:=yL5 s.heap a b}):=
 .of_wp λprog w A R s h=>by
  obtain⟨hp,g,d,tk,os⟩:=s;obtain⟨ta,tb,h⟩:=h;have hsub:=sub_zip;have q1:Heap.IsList (Shared.heap ⟨hp,g,d,tk,os⟩) a xs:=ta;have q2:IsTuple (Shared.heap ⟨hp.push {cls:= .type "list_iterator",data:= .fields #[.ref a,.int 0 0]},g,d,tk,os⟩) b ys:=let ⟨o,ho,r⟩:=tb;⟨o,Lt _ ho,r⟩
  wp_walk using wpAny_pyIter_list q1,Qf0 q2
  exact⟨_,rfl,h⟩
section
variable{prog:Program}{w:World}{A:Around}{E:Value->Shared->Prop}{s:Shared}
theorem Sm{a b:Addr}{xs ys:Array Value}{Q:Value->Shared->Prop}(ta:s.heap.IsList a xs)(tb:s.heap.IsTuple b ys)(h:∀h',IsZip h' (s.heap.objs.size+4) (s.heap.objs.size+2) (s.heap.objs.size+3) .none->IsPair h' (s.heap.objs.size+2) (.ref s.heap.objs.size) (.ref (s.heap.objs.size+1))->IsPair h' (s.heap.objs.size+3) .none .none->
   h'.IsListIter s.heap.objs.size a 0->h'.IsTupleIter (s.heap.objs.size+1) b 0->h'.objs.size=s.heap.objs.size+5->(∀c o,s.heap.get? c=some o->h'.get? c=some o)->Q (.ref (s.heap.objs.size+4)) {s with heap:=h'}):
  wpAny (model prog w) A (call (.type "zip") [.ref a,.ref b]) Q E s:=by
 refine callType_new F.called_zip (by decide) (F.typeCall_zip_2 _ _) (F.newCall_zip_2 _ _) (λobj=>F.args_object_init_3 obj _ _) F.entry_zip_new (Pa a b xs ys) ⟨ta,tb,?_⟩;have y1:(zL1 s.heap a).objs.size=s.heap.objs.size+1:=size_push ..;have y2:(yL2 s.heap a b).objs.size=s.heap.objs.size+2:=by rw[size_push,y1]
 have y3:(yL3 s.heap a b).objs.size=s.heap.objs.size+3:=by rw[size_push,y2]
 have y4:(yL4 s.heap a b).objs.size=s.heap.objs.size+4:=by rw[size_push,y3]
 have y5:(yL5 s.heap a b).objs.size=s.heap.objs.size+5:=by rw[size_push,y4]
 have e5:(yL5 s.heap a b).get? (yL4 s.heap a b).objs.size=some _:=Qa5 _ rfl;have e4:(yL5 s.heap a b).get? (yL3 s.heap a b).objs.size=some _:=Lt _ (Qa5 _ rfl);have e3:(yL5 s.heap a b).get? (yL2 s.heap a b).objs.size=some _:=Lt _ (Lt _ (Qa5 _ rfl));have e2:(yL5 s.heap a b).get? (zL1 s.heap a).objs.size=some _:=Lt _ (Lt _ (Lt _ (Qa5 _ rfl)));have e1:(yL5 s.heap a b).get? s.heap.objs.size=some _:=Lt _ (Lt _ (Lt _ (Lt _ (Qa5 _ rfl))));show _/\_;rw[y2,y3,y4] at e5;rw[y1,y2] at e3;rw[y3] at e4;rw[y1] at e2;rw[y4];refine⟨⟨_,e5,rfl⟩,h _ e5 e3 e4 ⟨_,e1,rfl,rfl⟩ ⟨_,e2,rfl,rfl⟩ y5 λc o e=> ?_⟩;exact Lt _ (Lt _ (Lt _ (Lt _ (Lt _ e))))
end
end PySem
namespace L2
open PySem PySem.Spec PyProof.Rows
section
variable{X:Cx}{pins:List (Addr×Obj)}{σ:St}
theorem X7{H H':Hp}{s:Shared}{a:Addr}{y v:V}{u r:Value}{A:Around}{E:Value->Shared->Prop}{Q:Unit->Shared->Prop}(hu:A.units<cLine)(I:Inv X pins σ H s)(g:DPut H a y v H')(ry:RelV y u)(rv:RelV v r)(h:∀h' tk,Inv X pins σ H' {s with heap:=h',toks:=tk}->SameBut a s.heap h'->Q () {s with heap:=h',toks:=tk}):
  wpAny (model X.prog X.w) A (dictSet a u r) Q E s:=by
 rcases g with⟨kvs,k,e,ey,l,eH⟩|⟨kvs,k,b,e,ey,eb,l,eH⟩
 ·subst ey eH;obtain⟨z,hd,vs,rel,dd⟩:=Ih I.hok e;have hz:vs.length<=sizeLine:=by rw[<-rel.length];exact z
  have hl:(Bw kvs k v).length<=sizeLine:=by have:=Cu kvs k v;exact le_trans (by assumption) (by assumption)
  refine wpAny_dictSet_pairs (hsz:=hz) (J8 ry) dd λh' dd' hs=>h _ _ ?_ hs;have he:∃q,h'.get? a=some q:=let ⟨q,_,_,hq,_⟩:=dd';⟨q,hq⟩
  exact Fi I (by rw[e];exact True.intro) hs he (Os hl hd (rel.put k rv) dd')
 ·subst ey eH;cases (show u=Value.ref b from ry);obtain⟨z,hd,xs,rel,dd⟩:=V7 I.hok e;have hz:xs.length<=sizeLine:=by rw[<-Paired.length rel];exact z
  have hl:(Bw kvs k v).length<=sizeLine:=by have:=Cu kvs k v;exact le_trans (by assumption) (by assumption)
  refine wpAny_dictSet_heap (hsz:=hz) (knd:=tupleKind (Bg X.prog X.w)) (show A.units<cLine from hu) (Hc I.hok eb) dd λh' dd' hs=>h _ _ ?_ hs;obtain⟨q,es,ep,hq,h2,h3,h4,_,h5⟩:=dd';refine Fi I (by rw[e];exact True.intro) hs ⟨q,hq⟩ ⟨hl,hd,_,(rel.put k eb rv).keeps λc ys ec=> ?_,q,es,ep,hq,h2,h3,h4,h5⟩;rw[Ai (Ar ec e (λz=>nomatch z))];exact ec
def ZSt(a b D z TI TO i1 i2:Addr)(i:Nat)(h:Heap):Prop:=
 IsPair h TI (.ref i1) (.ref i2)/\(∃u v,IsPair h TO u v)/\h.IsListIter i1 a i/\h.IsTupleIter i2 b i/\
 (IsZip h z TI TO .none\/∃T f oT,Ea h z TI TO T f/\h.get? T=some oT/\T ∉ [z,TI,TO,i1,i2]/\T≠D)
theorem dz_loop{a b D z TI TO i1 i2:Addr}(nd:[z,TI,TO,i1,i2].Nodup)(na:a ∉ [z,TI,TO,i1,i2])(nb:b ∉ [z,TI,TO,i1,i2])(nD:D ∉ [z,TI,TO,i1,i2]){xs ys:List V}(hl:xs.length=ys.length)(J:Nat->Hp)(hx:∀i,i<=xs.length->SqL X.K (J i) a xs)(hy:∀i,i<=xs.length->SqT X.K (J i) b ys)(hp:∀i x y,xs[i]? =some x->ys[i]? =some y->DPut (J i) D x y (J (i+1)))(hf:∀i,i<=xs.length->∀c∈[z,TI,TO,i1,i2],FpOk X pins (J i) c)(hDn:∀i s,i<=xs.length->Inv X pins σ (J i) s->D<s.heap.objs.size){A:Around}(hh:A.handled=none)(hu:A.in1.units<cLine){R:Result->Shared->Prop}:
  ∀(k i:Nat) (s:Shared),xs.length - i=k->i<=xs.length->Inv X pins σ (J i) s->D<s.heap.objs.size->ZSt a b D z TI TO i1 i2 i s.heap->(∀s',Inv X pins σ (J xs.length) s'->R (.ok (.ret .none)) s')->
   codeAny (model X.prog X.w) A (.builtin "dict.update.loop" ⟨[.ref D,.ref z,rawInt i,.none],[]⟩) R s:=by
 have AP:=Td nd na nb;intro k
 induction k with
 |zero=>
  intro i s hk hi I hD hz hR;have hin:i=xs.length:=by omega
  subst hin;obtain⟨pI,⟨u,v,pO⟩,t1,t2,hZ⟩:=hz;obtain⟨its,rv,p1,_⟩:=I.list (hx _ (le_refl _));obtain⟨jts,rw',p2,_⟩:=I.tuple (hy _ (le_refl _));have l1:its.toArray.size=xs.length:=by rw[size_toArray];exact rv.length.symm
  have l2:jts.toArray.size=ys.length:=by rw[size_toArray];exact rw'.length.symm
  refine Qe4 F.entry_dict_update_loop ?_;rw[Around.under_plainId F.plain_dict_update_loop _];show wpAny _ A.in1 (pyNext (.ref z) >>=_) _ _ s;have fin:∀h' tk,(∀c o,c≠z->c≠TO->c≠i1->c≠i2->s.heap.get? c=some o->h'.get? c=some o)->Inv X pins σ (J xs.length) {s with heap:=h',toks:=tk}:=λh' tk kk=>
   I.turnedL (t':=tk) [z,TI,TO,i1,i2] (λc o hc' q=>kk c o (λq=>hc' (by simp[q])) (λq=>hc' (by simp[q])) (λq=>hc' (by simp[q])) (λq=>hc' (by simp[q])) q) (hf _ (le_refl _))
  have D1:=Draws.list (prog:=X.prog) (w:=X.w) (A:=A.in1.in1) (by simpa using hh) i1 a (λq=>na (by simp[q])) its.toArray;have D2:=Draws.tup (prog:=X.prog) (w:=X.w) (A:=A.in1.in1) (by simpa using hh) i2 b (λq=>nb (by simp[q])) jts.toArray;rcases hZ with hZ|⟨T,f,oT,hZ,hT,_,_⟩
  ·refine Gt (Fs AP D1 D2 hZ pI pO ⟨t1,p1.isList⟩ ⟨t2,p2⟩ (.inl l1.symm) λh' tk kk=> ?_);dsimp only;unfold Builtin.Dict.addKeywords;exact Gt (Qa0 (Qa0 (hR _ (fin h' tk kk))))
  ·refine Gt (Kd AP D1 hZ hT pI ⟨by rw[l1];exact t1,p1.isList⟩ λh' tk kk=> ?_);dsimp only;unfold Builtin.Dict.addKeywords;exact Gt (Qa0 (Qa0 (hR _ (fin h' tk kk))))
 |succ k ih=>
  intro i s hk hi I hD hz hR;have hlt:i<xs.length:=by omega
  obtain⟨pI,⟨u,v,pO⟩,t1,t2,hZ⟩:=hz;obtain⟨its,rv,p1,_⟩:=I.list (hx _ hi);obtain⟨jts,rw',p2,_⟩:=I.tuple (hy _ hi);have l1:its.toArray.size=xs.length:=by rw[size_toArray];exact rv.length.symm
  have l2:jts.toArray.size=ys.length:=by rw[size_toArray];exact rw'.length.symm
  obtain⟨ux,hux,rx⟩:=rv.get (x:=xs[i]) (i:=i) (by simp[hlt]);obtain⟨uy,huy,ry⟩:=rw'.get (x:=ys[i]'(by omega)) (i:=i) (by simp);have sizes:∀c∈[z,TI,TO,i1,i2],c≠s.heap.objs.size:=by
   intro c hc;obtain⟨o4,g4,_⟩:=id t1;obtain⟨o5,g5,_⟩:=id t2;simp only[Qa6,Qd9,or_false] at hc;rcases hc with rfl|rfl|rfl|rfl|rfl
   ·rcases hZ with hZ|⟨T,f,oT,hZ,_⟩
    ·exact ne_of_lt (Qa7 hZ)
    ·exact ne_of_lt (Qa7 hZ)
   ·exact ne_of_lt (Qa7 pI)
   ·exact ne_of_lt (Qa7 pO)
   ·exact ne_of_lt (Qa7 g4)
   ·exact ne_of_lt (Qa7 g5)
  have sD:s.heap.objs.size≠D:=Ne.symm (ne_of_lt hD);refine Qe4 F.entry_dict_update_loop ?_;rw[Around.under_plainId F.plain_dict_update_loop _];show wpAny _ A.in1 (pyNext (.ref z) >>=_) _ _ s;have D1:=Draws.list (prog:=X.prog) (w:=X.w) (A:=A.in1.in1) (by simpa using hh) i1 a (λq=>na (by simp[q])) its.toArray;have D2:=Draws.tup (prog:=X.prog) (w:=X.w) (A:=A.in1.in1) (by simpa using hh) i2 b (λq=>nb (by simp[q])) jts.toArray;have step:∀{Q:Option Value->Shared->Prop} {E:Value->Shared->Prop},(∀h' tk x y,its.toArray[i]? =some x->jts.toArray[i]? =some y->(∃T f oT,Ea h' z TI TO T f/\h'.get? T=some oT/\T ∉ [z,TI,TO,i1,i2]/\T≠D)->(∃u v,IsPair h' TO u v)->h'.IsListIter i1 a (i+1)->h'.IsTupleIter i2 b (i+1)->IsPair h' s.heap.objs.size x y->
    (∀c o,c≠z->c≠TO->c≠i1->c≠i2->s.heap.get? c=some o->h'.get? c=some o)->Q (some (.ref s.heap.objs.size)) {s with heap:=h',toks:=tk})->wpAny (model X.prog X.w) A.in1 (pyNext (.ref z)) Q E s:=by
   intro Q E hQ;have nT:s.heap.objs.size ∉ [z,TI,TO,i1,i2]:=λq=>sizes _ q rfl;rcases hZ with hZ|⟨T,f,oT,hZ,hT,g3,g4⟩
   ·exact E4 AP D1 D2 hZ pI pO ⟨t1,p1.isList⟩ ⟨t2,p2⟩ (by omega) (by omega) λh' tk x y a1 a2 a3 a4 a5 a6 a7 a8=>
     hQ h' tk x y a1 a2 ⟨s.heap.objs.size,false,_,a3,a7,nT,sD⟩ ⟨_,_,a4⟩ a5.1 a6.1 a7 a8
   ·simp only[Qa6,Qd9,or_false,not_or] at g3;exact Jp AP D1 D2 hZ hT pI ⟨t1,p1.isList⟩ ⟨t2,p2⟩ (by omega) (by omega) λh' tk x y a1 a2 a3 a4 a5 a6 a7=>
     hQ h' tk x y a1 a2 ⟨T,true,oT,a3,a7 T oT g3.1 g3.2.2.2.1 g3.2.2.2.2 hT,by simp only[Qa6,Qd9,or_false,not_or];exact g3,g4⟩ ⟨_,_,a7 TO _ AP.a2 AP.a8 AP.a9 pO⟩ a4.1 a5.1 a6 λc o c1 _ c3 c4 e=>a7 c o c1 c3 c4 e
  refine Gt (step λh' tk x y ex ey eZ eO e1 e2 eT kk=> ?_);have ex:ux=x:=Option.some.inj (hux.symm.trans (by simpa using ex));have ey:uy=y:=Option.some.inj (huy.symm.trans (by simpa using ey));subst ex ey;have I':Inv X pins σ (J i) {s with heap:=h',toks:=tk}:=I.turnedL (t':=tk) [z,TI,TO,i1,i2] (λc o hc' q=>kk c o (λq=>hc' (by simp[q])) (λq=>hc' (by simp[q])) (λq=>hc' (by simp[q])) (λq=>hc' (by simp[q])) q) (hf _ hi);have hT:TypeIs {s with heap:=h',toks:=tk} (.ref s.heap.objs.size) "tuple":=⟨_,eT,rfl⟩
  dsimp only;refine Gt (Qb9 (Gt ?_));refine wpAny_tryCatch ?_;unfold Builtin.Dict.pairItems;refine Gt (Qc8 hT ?_);have q1:(Value.type "tuple"==Value.type "list"||Value.type "tuple"==Value.type "tuple")=true:=by decide
  simp only[q1,Qe7];refine Gt (Qd2 eT rfl (Qa0 ?_));show wpAny _ _ (holding [ux,uy] (dictSet D ux uy)) _ _ _;refine Qb9 (X7 hu I' (hp i _ _ (by simp[hlt]) (by simp)) rx ry λh2 tk2 I2 sb=> ?_);have nz:∀c∈[z,TI,TO,i1,i2],c≠D:=λc hc e=>nD (e▸hc);obtain⟨u2,v2,eO⟩:=eO;obtain⟨T,f,oT,g1,g2,g3,g4⟩:=eZ;have pI':=kk TI _ AP.a1 AP.a5 AP.a6 AP.a7 pI;refine Qa0 ⟨plainId_quiet F.plain_dict_update_loop _,?_⟩;refine ih (i+1) _ (by omega) hlt I2 (hDn (i+1) _ hlt I2) ⟨(sb.2 TI (nz TI (by simp))).trans pI',⟨u2,v2,(sb.2 TO (nz TO (by simp))).trans eO⟩,e1.at λo q=>(sb.2 i1 (nz i1 (by simp))).trans q,e2.at λo q=>(sb.2 i2 (nz i2 (by simp))).trans q,.inr ⟨T,f,oT,(sb.2 z (nz z (by simp))).trans g1,(sb.2 T g4).trans g2,g3,g4⟩⟩ hR
def tDZ(K:Frag)(ta:TA):TE:=λσ H Q=>ta σ H λvs H1=>∃(a b:Addr) (xs ys:List V) (J:Addr->Nat->Hp),vs=[.ref a,.ref b]/\SqL K H1 a xs/\SqT K H1 b ys/\xs.length=ys.length/\
 ∀D,H1 D=none->(J D 0=upd H1 D (.dK [])\/J D 0=upd H1 D (.dT []))/\(∀i,i<=xs.length->SqL K (J D i) a xs/\SqT K (J D i) b ys/\J D i D≠none/\∀c,c≠D->H1 c=none->J D i c=none)/\
  (∀i x y,xs[i]? =some x->ys[i]? =some y->DPut (J D i) D x y (J D (i+1)))/\Q (.ref D) (J D xs.length)
theorem Mi{X:Cx}{p1 p2 pos pos2:Pos}{e1 e2:Expr}{ta:TA}(hc:X.calm=true)(hu:X.A.units+8<cLine)(hg:Gl X "dict")(hm:X.mg "dict"=none)(hg2:Gl X "zip")(hm2:X.mg "zip"=none)(ha:PA X [e1,e2] ta)(hs:starEach [e1,e2] X.env=[(false,eval e1 X.env),(false,eval e2 X.env)]:=by rfl)(hs2:starEach [e2] X.env=[(false,eval e2 X.env)]:=by rfl):
  PE X (.Call (.Name "dict" p1) [.Call (.Name "zip" p2) [e1,e2] [] pos2] [] pos) (tDZ X.K ta):=by
 intro pins s σ H Q I h;have hh:X.A.handled=none:=I.ok.hd hc;refine Call_ (Dz I hg hm (show bootBuiltins "dict"=some (.type "dict") by decide+kernel) (PyProof.Rows.callWith_type1 ?_ (by rfl) (by rfl)));refine Calls.spliced_cons ?_;refine Call_ (Dz I hg2 hm2 (show bootBuiltins "zip"=some (.type "zip") by decide+kernel) (PyProof.Rows.callWith_type1 (thn (ha pos2 pins s σ H _ I h) λus s1 ⟨vs,H1,I1,r1,q1⟩=> ?_) (by rw[hs,hs2]) (by rw[hs2];rfl)));obtain⟨a,b,xs,ys,J,e,hqa,hqb,hl,q⟩:=q1;subst e;cases r1 with
 |cons r rr=>
  cases rr with
  |cons r' rr=>
   cases rr;cases r;cases r';obtain⟨its,rv,p1,_⟩:=I1.list hqa;obtain⟨jts,rw',p2,_⟩:=I1.tuple hqb;refine Sm p1.isList p2 λh' hZ pI pO t1 t2' sz kk=>Calls.spliced_nil ?_;obtain⟨oa,ga,_⟩:=id p1.isList;obtain⟨ob,gb,_⟩:=id p2;have la:=Qa7 ga;have lb:=Qa7 gb;have I2:Inv X pins σ H1 {s1 with heap:=h'}:=I1.kept (t':=s1.toks) kk;have big:∀c∈[s1.heap.objs.size+4,s1.heap.objs.size+2,s1.heap.objs.size+3,s1.heap.objs.size,s1.heap.objs.size+1],s1.heap.objs.size<=c/\c<h'.objs.size:=by
    intro c hc;rw[sz];simp only[Qa6,Qd9,or_false] at hc;rcases hc with rfl|rfl|rfl|rfl|rfl<;> omega
   have ok:∀H',(∀c,s1.heap.objs.size<=c->c<h'.objs.size->H' c=none)->∀c∈[s1.heap.objs.size+4,s1.heap.objs.size+2,s1.heap.objs.size+3,s1.heap.objs.size,s1.heap.objs.size+1],FpOk X pins H' c:=λH' hn c hc=>I1.fpOk (big c hc).1 (hn c (big c hc).1 (big c hc).2);have nn:∀c,s1.heap.objs.size<=c->H1 c=none:=λc hc=>I1.hok.fresh hc;have nd:[s1.heap.objs.size+4,s1.heap.objs.size+2,s1.heap.objs.size+3,s1.heap.objs.size,s1.heap.objs.size+1].Nodup:=by
    generalize s1.heap.objs.size=n;show Nodup ([n+4,n+2,n+3,n,n+1]:List Nat);simp
   have na:a ∉ [s1.heap.objs.size+4,s1.heap.objs.size+2,s1.heap.objs.size+3,s1.heap.objs.size,s1.heap.objs.size+1]:=λq=>lt_irrefl _ (lt_of_lt_of_le la (big _ q).1);have nb:b ∉ [s1.heap.objs.size+4,s1.heap.objs.size+2,s1.heap.objs.size+3,s1.heap.objs.size,s1.heap.objs.size+1]:=λq=>lt_irrefl _ (lt_of_lt_of_le lb (big _ q).1);have nD:h'.objs.size ∉ [s1.heap.objs.size+4,s1.heap.objs.size+2,s1.heap.objs.size+3,s1.heap.objs.size,s1.heap.objs.size+1]:=λq=>lt_irrefl _ (big _ q).2;obtain⟨j0,jk,jp,qq⟩:=q h'.objs.size (nn _ (by omega));generalize s1.heap.objs.size+4=z at *;generalize s1.heap.objs.size+2=TI at *;generalize s1.heap.objs.size+3=TO at *;generalize s1.heap.objs.size+1=i2 at *;generalize ei1:s1.heap.objs.size=i1 at *;have I3:Inv X pins σ (J h'.objs.size 0) {s1 with heap:=h'.push {cls:= .type "dict",data:= .dict #[]}}:=by
    rcases j0 with j0|j0
    ·rw[j0];exact I2.laid (a:=h'.objs.size) (o:= .dK []) (t':=s1.toks) (λ_ _ q=>Lt _ q) (le_refl _) (Q0 h' I2.big)
    ·rw[j0];exact I2.laid (a:=h'.objs.size) (o:= .dT []) (t':=s1.toks) (λ_ _ q=>Lt _ q) (le_refl _) (Qx h' I2.big)
   refine callType_codes (Q₁:=λobj s₁=>obj= .ref h'.objs.size/\s₁={s1 with heap:=h'.push {cls:= .type "dict",data:= .dict #[]}}) F.called_dict (F.typeCall_dict_1 _) F.entry_dict_init
    (Nl _ ⟨rfl,rfl⟩) λobj s₁ h₁=> ?_
   obtain⟨rfl,rfl⟩:=h₁;have hS:(h'.push {cls:= .type "dict",data:= .dict #[]}).get? h'.objs.size=some {cls:= .type "dict",data:= .dict #[]}:=Qa5 _ rfl;have hT:TypeIs {s1 with heap:=h'.push {cls:= .type "dict",data:= .dict #[]}} (.ref h'.objs.size) "dict":=⟨_,hS,rfl⟩
   refine⟨hT,F.args_dict_init_2 _ _,?_⟩;have k1:∀b o,h'.get? b=some o->(h'.push {cls:= .type "dict",data:= .dict #[]}).get? b=some o:=λb o e=>Lt _ e;generalize h'.push {cls:= .type "dict",data:= .dict #[]}=h1 at hS hT k1 I3 ⊢;have okJ:∀i,i<=xs.length->∀c∈[z,TI,TO,i1,i2],FpOk X pins (J h'.objs.size i) c:=λi hi=>ok _ λc c1 c2=>(jk i hi).2.2.2 c (ne_of_lt c2) (nn c c1);generalize h'.objs.size=D at *;unfold Builtin.«dict.__init__» Builtin.Dict.selfAndRest Builtin.Dict.notOrdered;dsimp only;refine Gt (Gt ?_);rw[Qa2 (by decide+kernel)];refine Gt (Qc8 hT ?_);rw[Qa1 (by decide+kernel)];refine Qa0 ?_;refine Gt (m:=Builtin.Dict.addrOf (.ref D)) (wpAny_of_eq (a:=D) rfl ?_);refine Qa0 ?_;show wpAny _ _ (Builtin.Dict.updateFrom "dict.__init__" D (.ref z) [] .none) _ _ _;unfold Builtin.Dict.updateFrom;have hz1:=k1 _ _ hZ;have hTz:TypeIs {s1 with heap:=h1} (.ref z) "zip":=⟨_,hz1,rfl⟩
   refine Gt (Qc8 hTz ?_);rw[Qa2 (by decide+kernel)];refine Gt (To (t:=s1.toks) hz1 (by simpa using hh) λh2 t2 k2=> ?_);dsimp only;simp only[Option.isNone_none,Qe7];refine Gt (Qd5 ?_);have hz2:IsZip h2 z TI TO .none:=k2 _ _ hz1;refine Gt (wpAny_pyIter_zip hz2 ?_);refine Qa0 ⟨plainId_quiet F.plain_dict_update_loop _,?_⟩;have I4:Inv X pins σ (J D 0) {s1 with heap:=h2,toks:=t2}:=I3.kept (t':=t2) k2;have kk2:∀c o,h'.get? c=some o->h2.get? c=some o:=λc o e=>k2 _ _ (k1 _ _ e);refine dz_loop (z:=z) (TI:=TI) (TO:=TO) (i1:=i1) (i2:=i2) nd na nb nD hl (J D) (λi hi=>(jk i hi).1) (λi hi=>(jk i hi).2.1) jp okJ (λi s hi I=>Nat.lt_of_not_le λg=>(jk i hi).2.2.1 (I.hok.fresh g)) (by simpa using hh) ?_ _ 0 _ rfl (Qc5 _) I4 (Qa7 (k2 _ _ hS))
    ⟨kk2 _ _ pI,⟨_,_,kk2 _ _ pO⟩,t1.at λo q=>kk2 _ _ q,t2'.at λo q=>kk2 _ _ q,.inl hz2⟩ λs' I'=>⟨rfl,.ref D,_,I',rfl,qq⟩
   show X.A.in1.in1.units<cLine;rw[units_in1,units_in1];omega
end
def C5{κ:Type}(ks:List κ)(ys:List V):List (κ×V):=ks.zip ys
theorem Ya{κ:Type}{ks:List κ}{ys:List V}(h:ks.length=ys.length):(C5 ks ys).map (·.1)=ks:=by
 unfold C5;rw[<-List.unzip_fst,List.unzip_zip_left (by omega)]
theorem Vo{κ:Type}{ks:List κ}{ys:List V}{i:Nat}{k:κ}{y:V}(e1:ks[i]? =some k)(e2:ys[i]? =some y):(C5 ks ys)[i]? =some (k,y):=by
 unfold C5;rw[List.getElem?_zip_eq_some];exact⟨e1,e2⟩
theorem M7{κ:Type}[DecidableEq κ]{ks:List κ}{ys:List V}(h:ks.length=ys.length)(nd:ks.Nodup){i:Nat}{k:κ}{y:V}(e1:ks[i]? =some k)(e2:ys[i]? =some y):Bw ((C5 ks ys).take i) k y=(C5 ks ys).take (i+1):=by
 have e:=Vo e1 e2;rw[Qb2,e];refine Ld y ?_;unfold Bj;rw[Option.map_eq_none_iff,List.find?_eq_none];intro p hp;simp only[Qa4];intro z;obtain⟨j,hj,ej⟩:=getElem_of_mem hp;rw[List.getElem_take] at ej;have ji:j<i:=by rw[Qb0] at hj;omega
 have jl:j<(C5 ks ys).length:=by rw[Qb0] at hj;omega
 have il:=(List.getElem?_eq_some_iff.mp e).1;have n2:((C5 ks ys).map (·.1)).Nodup:=by rw[Ya h];exact nd
 have:j=i:=by
  refine(getElem_inj (h₀:=by rw[If];exact jl) (h₁:=by rw[If];exact il) n2).mp ?_;rw[getElem_map,getElem_map,ej,(List.getElem?_eq_some_iff.mp e).2,z]
 omega
theorem So{κ:Type}[DecidableEq κ]{ks:List κ}{ys:List V}(h:ks.length=ys.length)(nd:ks.Nodup){i:Nat}{k:κ}{y:V}(e1:ks[i]? =some k)(e2:ys[i]? =some y):Bj (C5 ks ys) k=some y:=by
 have e:=Vo e1 e2;have a:=M7 h nd e1 e2;have:Bj ((C5 ks ys).take (i+1)) k=some y:=by rw[<-a,Gd,Qa2 rfl]
 unfold Bj at this ⊢;rw[map_eq_some_iff] at this ⊢;obtain⟨p,hp,rfl⟩:=this;refine⟨p,?_,rfl⟩;rw[<-List.take_append_drop (i+1) (C5 ks ys),List.find?_append,hp];rfl
section
variable{K:Frag}{H:Hp}{a b:Addr}{ys:List V}
theorem dzI{ns:List Int}(ha:H a=some (.lst (ns.map V.int)))(hb:H b=some (.tup ys))(hl:ns.length=ys.length)(nd:ns.Nodup)(hs:ns.length<sizeLine):
  ∃J:Addr->Nat->Hp,∀D,H D=none->(J D 0=upd H D (.dK [])\/J D 0=upd H D (.dT []))/\(∀i,i<=(ns.map V.int).length->SqL K (J D i) a (ns.map V.int)/\SqT K (J D i) b ys/\J D i D≠none/\∀c,c≠D->H c=none->J D i c=none)/\
   (∀i x y,(ns.map V.int)[i]? =some x->ys[i]? =some y->DPut (J D i) D x y (J D (i+1)))/\J D (ns.map V.int).length=upd H D (.dK (C5 (ns.map Sum.inl) ys)):=by
 have hl':(ns.map (Sum.inl:Int->Key)).length=ys.length:=by rw[If];exact hl
 refine⟨λD i=>upd H D (.dK ((C5 (ns.map (Sum.inl:Int->Key)) ys).take i)),λD hD=>⟨.inl rfl,λi _=>⟨SqL.of (Ac hD _ _ ha),SqT.of (Ac hD _ _ hb),by dsimp only;rw[Ab];exact λz=>(by cases z),λc hc e=>by dsimp only;rw[Ai hc];exact e⟩,λi x y e1 e2=> ?_,?_⟩⟩
 ·rw[getElem?_map] at e1;obtain⟨n,en,rfl⟩:=map_eq_some_iff.mp e1;refine .inl ⟨_,Sum.inl n,Ab,rfl,?_,?_⟩
  ·have:=List.length_take_le i (C5 (ns.map (Sum.inl:Int->Key)) ys);have h2:(C5 (ns.map (Sum.inl:Int->Key)) ys).length<=ns.length:=by unfold C5;rw[length_zip,If];omega
   have h3:=List.length_take_le' i (C5 (ns.map (Sum.inl:Int->Key)) ys);omega
  ·dsimp only;rw[O1,M7 hl' (Pairwise.map _ (λa b hab=>λz=>hab (Sum.inl.inj z)) nd) (by rw[getElem?_map,en];rfl) e2]
 ·have:(C5 (ns.map (Sum.inl:Int->Key)) ys).length<=(ns.map V.int).length:=by unfold C5;rw[length_zip,If,If];omega
  dsimp only;rw[Qc6 this]
theorem dzT{rs:List Addr}{ks:List (List Key)}(ha:H a=some (.lst (rs.map V.ref)))(hr:rs.length=ks.length)(hk:∀(i:Nat) r k,rs[i]? =some r->ks[i]? =some k->H r=some (.tup (k.map kV)))(hb:H b=some (.tup ys))(hl:ks.length=ys.length)(nd:ks.Nodup)(hs:ks.length<sizeLine):
  ∃J:Addr->Nat->Hp,∀D,H D=none->(J D 0=upd H D (.dK [])\/J D 0=upd H D (.dT []))/\(∀i,i<=(rs.map V.ref).length->SqL K (J D i) a (rs.map V.ref)/\SqT K (J D i) b ys/\J D i D≠none/\∀c,c≠D->H c=none->J D i c=none)/\
   (∀i x y,(rs.map V.ref)[i]? =some x->ys[i]? =some y->DPut (J D i) D x y (J D (i+1)))/\J D (rs.map V.ref).length=upd H D (.dT (C5 ks ys)):=by
 refine⟨λD i=>upd H D (.dT ((C5 ks ys).take i)),λD hD=>⟨.inr rfl,λi _=>⟨SqL.of (Ac hD _ _ ha),SqT.of (Ac hD _ _ hb),by dsimp only;rw[Ab];exact λz=>(by cases z),λc hc e=>by dsimp only;rw[Ai hc];exact e⟩,λi x y e1 e2=> ?_,?_⟩⟩
 ·rw[getElem?_map] at e1;obtain⟨r,er,rfl⟩:=map_eq_some_iff.mp e1;have il:i<ks.length:=by rw[<-hr];exact(List.getElem?_eq_some_iff.mp er).1
  have ek:ks[i]? =some ks[i]:=getElem?_eq_getElem il;have eb:=hk i r _ er ek;refine .inr ⟨_,ks[i],r,Ab,rfl,Ac hD _ _ eb,?_,?_⟩
  ·have h2:(C5 ks ys).length<=ks.length:=by unfold C5;rw[length_zip];omega
   have h3:=List.length_take_le' i (C5 ks ys);omega
  ·dsimp only;rw[O1,M7 hl nd ek e2]
 ·have:(C5 ks ys).length<=(rs.map V.ref).length:=by unfold C5;rw[length_zip,If,hr];omega
  dsimp only;rw[Qc6 this]
end
end L2
namespace K29
variable{P:Program}{w:World}{K:Frag}{mg:Str->Option Value}{base:Heap}{C I:Addr}
open PySem L2 Wk
def joB(N:Nat)(S:List T4)(p q:Nat):Bool:=decide (q∈Az N S p)
theorem Du{N p q:Nat}{S:List T4}(hS:InN N S)(hN:N<=60)(hp:p<N):joB N S p q=true↔q<N/\Reach S p q:=by
 unfold joB;rw[Qa4];exact Cp hS hp hN
structure Equi(P:List Nat)(r:Nat->Nat->Bool):Prop where
 self:∀p∈P,r p p=true
 sym:∀p∈P,∀q∈P,r p q=r q p
 tr:∀p∈P,∀q∈P,r p q=true->∀v∈P,r p v=r q v
theorem Oy{N:Nat}{S:List T4}(hS:InN N S)(hN:N<=60){P:List Nat}(hP:∀p∈P,p<N):Equi P (joB N S) where
 self:=λp hp=>(Du hS hN (hP p hp)).mpr ⟨hP p hp,.refl⟩
 sym:=λp hp q hq=>by
  rw[Bool.eq_iff_iff,Du hS hN (hP p hp),Du hS hN (hP q hq)];exact⟨λh=>⟨hP p hp,h.2.symm⟩,λh=>⟨hP q hq,h.2.symm⟩⟩
 tr:=λp hp q hq h v hv=>by
  have h:=(Du hS hN (hP p hp)).mp h;rw[Bool.eq_iff_iff,Du hS hN (hP p hp),Du hS hN (hP q hq)];exact⟨λg=>⟨g.1,h.2.symm.trans g.2⟩,λg=>⟨g.1,h.2.trans g.2⟩⟩
def ToldD(H:Hp)(d:Addr)(P:List Nat)(r:Nat->Nat->Bool):Prop:=∃kvs,H d=some (.dT kvs)/\∀p∈P,∀q∈P,Bj kvs [Sum.inl (p:Int),Sum.inl (q:Int)]=some (.bl (r p q))
theorem ToldD.same{H H':Hp}{d:Addr}{P:List Nat}{r:Nat->Nat->Bool}(h:ToldD H d P r)(s:Same H H'):ToldD H' d P r:=let ⟨k,a,b⟩:=h;⟨k,s _ _ a,b⟩
theorem ToldD.get{H H':Hp}{d t:Addr}{P:List Nat}{r:Nat->Nat->Bool}(h:ToldD H d P r){p q:Nat}(hp:p∈P)(hq:q∈P)(s:Same H H')(ht:H' t=some (.tup [.int (p:Int),.int (q:Int)])):DGet H' d (.ref t) (some (.bl (r p q))):=by
 obtain⟨kvs,e,v⟩:=h;have:=DGet.t (k:=[Sum.inl (p:Int),Sum.inl (q:Int)]) (s _ _ e) ht
 rwa [v p hp q hq] at this
theorem Dt{P:List Nat}{i:Nat}{x:V}(h:(nV P)[i]? =some x):∃p,P[i]? =some p/\x= .int (p:Int):=by
 unfold nV at h;rw[getElem?_map,getElem?_map] at h;cases e:P[i]? with
 |none=>rw[e] at h;cases h
 |some p=>rw[e] at h;exact⟨p,rfl,(Option.some.inj h).symm⟩
theorem eqs_row{K:Frag}{H:Hp}{a c:Addr}{P:List Nat}{f:Nat->Bool}(ha:H a=some (.lst (P.map λv=>V.bl (f v))))(hc:H c=some (.lst (P.map λv=>V.bl (f v)))):Eqs K H 1 (.ref a) (.ref c) true:=by
 have:=Eqs.seq (K:=K) (H:=H) (n:=0) (a:=a) (c:=c) (xs:=P.map λv=>V.bl (f v)) (ys:=P.map λv=>V.bl (f v)) (ds:=P.map f) (es:=P.map f) (.inr ⟨SqL.of ha,SqL.of hc⟩) (by simp) (by simp) (λj p q d e hp hq hd he=>by
  rw[getElem?_map] at hp hq hd he;cases ep:P[j]? with
  |none=>rw[ep] at hp;cases hp
  |some v=>
   rw[ep] at hp hq hd he;cases hp;cases hq;cases hd;cases he;have:=Eqs.flat (K:=K) (H:=H) (n:=0) (x:= .bl (f v)) (y:= .bl (f v)) rfl
   rwa [decide_eq_true rfl] at this ⊢)
 rwa [decide_eq_true rfl] at this
def Gu:Sp:=λvs H Q _=>∃(y:Int) (h ta:Addr) (N:Nat) (ds:List Dd) (rs:List Addr) (ks:List Ak),vs=[.int y,.ref h,.ref ta]/\HistAt H h N ds/\Db N ds/\1<=N/\N<=24/\H ta=some (.tup (rs.map V.ref))/\AksAt H rs ks/\(∀k∈ks,AkOk N ds.length k)/\ks.length<=60/\∀r H',Same H H'->H' r=some (.tup (ks.map (Iu N ds)))->Q (.ref r) H'
def Hq:Sp:=λvs H Q _=>∃(pl d:Addr) (P:List Nat) (r:Nat->Nat->Bool),vs=[.ref pl,.ref d]/\H pl=some (.lst (nV P))/\P.length<=60/\ToldD H d P r/\Equi P r/\∀H',Same H H'->Q (.bl true) H'
theorem X4:Av ["_law_way","_law_history","_law_asks_here"] ["_law_way","_law_history","_law_asks_here"] (Ah Lc):=⟨rfl,rfl,rfl,by decide+kernel,rfl,by decide+kernel,by decide+kernel⟩
theorem Ue{f:Addr}{fd:FuncData}(F:Fun K "_law_answers" "_law_answers" Lc f fd)(T:Txt K mg C I)(GPlain:Cl P w K mg base 14 "answers_plainly" ["history","asks"] Qh)(GHalf:Cl P w K mg base 14 "answers_by_halves" ["history","asks"] T0):
  FnOk P w K mg base CX0 15 f fd ["_law_way","_law_history","_law_asks_here"] Gu:=by
 refine F.ok X4 (λvs H Q E h=> ?_) (λcdv A outer s H vs Q E hr h=> ?_)
 ·obtain⟨_,_,_,_,_,_,_,rfl,_⟩:=h;rfl
 ·obtain⟨y,h,ta,N,ds,rs,ks,rfl,hH,hR,N1,N24,hta,hA,ok,k60,k⟩:=h;refine⟨_,Ae (Br (Ax Bq (pv 0) Af (Aw _)) (Ag (As (A7 GPlain hr (Aa (pv 1) (Aa (pv 2) Ad))))) Bd)
   (Ag (As (A7 GHalf hr (Aa (pv 1) (Aa (pv 2) Ad))))),?_⟩
  refine⟨_,rfl,rfl,_,rfl,B7 (λ_=> ?_) λ_=> ?_⟩
  ·exact⟨_,rfl,_,rfl,h,ta,N,ds,rs,ks,rfl,hH,hR,N24,hta,hA,ok,k60,k⟩
  ·exact⟨_,rfl,_,rfl,h,ta,N,ds,rs,ks,rfl,hH,hR,N1,N24,hta,hA,ok,k60,k⟩
theorem scTogether:Av ["_law_places_here","_law_told","_law_one","_law_other","_law_row"] ["_law_places_here","_law_told"] (Ah Fb):=⟨rfl,rfl,rfl,by decide+kernel,rfl,by decide+kernel,by decide+kernel⟩
theorem Sn{f:Addr}{fd:FuncData}(F:Fun K "_law_together" "_law_together" Fb f fd)(T:Txt K mg C I):
  FnOk P w K mg base CX0 1 f fd ["_law_places_here","_law_told"] Hq:=by
 refine F.ok scTogether (λvs H Q E h=> ?_) (λcdv A outer s H vs Q E hr h=> ?_)
 ·obtain⟨_,_,_,_,rfl,_⟩:=h;rfl
 ·obtain⟨pl,d,P,r,rfl,hpl,P60,hT,hE,k⟩:=h;refine⟨_,Ae (Cb PassesOwn.never rfl (Cd (pv 0)) (Aj (i:=2) scTogether.nd rfl (Or.inr rfl)) (Ag (Cb PassesOwn.never rfl (Cd (pv 0)) (Aj (i:=3) scTogether.nd rfl (Or.inr rfl)) (Ae (Br (PW.pt (Rw (Ax Qu (Dh (Dk hr) (pv 1) (A1 (Aa (pv 2) (Aa (pv 3) Ad))) (λ_ _=>rfl)) (Dh (Dk hr) (pv 1) (A1 (Aa (pv 3) (Aa (pv 2) Ad))) (λ_ _=>rfl)) (Aw _)) (Lw (Hm (Lu (Dh (Dk hr) (pv 1) (A1 (Aa (pv 2) (Aa (pv 2) Ad))) (λ_ _=>rfl)) (λ_=>rfl)))))) (Ag (As Gb)) Bd)
   (Ae (Eo (i:=4) (T:=["_law_place"]) (F:=["_law_told","_law_one"]) (js:=[1,2]) scTogether.nd rfl (Or.inl rfl) (cs (osc:=Ah Fb)) rfl (Cd (pv 0)) (λ_ _ _ _ _=>Aj (i:=0) (show (["_law_place","_law_told","_law_one"]:List Str).Nodup by decide+kernel) rfl (Or.inl rfl)) (λ_ _ _ _ _=>Ce) (λ_ _ _ _ _=>Dh (Dk hr) (pv 1) (A1 (Aa (pv 2) (Aa (pv 0) Ad))) (λ_ _=>rfl)))
   (Ag (Br (PW.pt (Hd (Lu (Dh (Dk hr) (pv 1) (A1 (Aa (pv 2) (Aa (pv 3) Ad))) (λ_ _=>rfl)) (λ_=>rfl)) (Fm (Ax (op_nes hr.units) (pv 4) (Cg (T:=["_law_place"]) (F:=["_law_told","_law_other"]) (js:=[1,3]) (cs (osc:=Ah Fb)) rfl (Cd (pv 0)) (λ_ _ _ _ _=>Aj (i:=0) (show (["_law_place","_law_told","_law_other"]:List Str).Nodup by decide+kernel) rfl (Or.inl rfl)) (λ_ _ _ _ _=>Ce) (λ_ _ _ _ _=>Dh (Dk hr) (pv 1) (A1 (Aa (pv 2) (Aa (pv 0) Ad))) (λ_ _=>rfl))) (Aw _))))) (Ag (As Gb)) Bd)))))))
   (Ag (As Gb)),?_⟩
  refine⟨_,rfl,pl,rfl,⟨_,SqL.of hpl⟩,Ej (K:=K) (a:=pl) (xs:=nV P) (λi σ HX=>∃(u2 u3 u4:Option V),σ=[some (.ref pl),some (.ref d),u2,u3,u4]/\Same H HX) ⟨_,_,_,rfl,Cw _⟩ (λi σ HX _ ⟨_,_,_,_,s⟩=>SqL.of (s _ _ hpl)) ?_ ?_⟩
  ·rintro i x σ HX hx ⟨u2,u3,u4,rfl,s1⟩;obtain⟨p,ep,rfl⟩:=Dt hx;have hp:=mem_of_getElem? ep;refine⟨_,rfl,pl,rfl,⟨_,SqL.of (s1 _ _ hpl)⟩,Ej (K:=K) (a:=pl) (xs:=nV P) (λi σ HY=>∃(u3 u4:Option V),σ=[some (.ref pl),some (.ref d),some (.int (p:Int)),u3,u4]/\Same H HY) ⟨_,_,rfl,s1⟩ (λi σ HX _ ⟨_,_,_,s⟩=>SqL.of (s _ _ hpl)) ?_ ?_⟩
   ·rintro j x σ HY hx ⟨u3,u4,rfl,s2⟩;obtain⟨q,eq,rfl⟩:=Dt hx;have hq:=mem_of_getElem? eq;refine⟨_,rfl,_,rfl,_,rfl,small (by simp),λt1 h1=>⟨d,_,rfl,hT.get hp hq (s2.trans (Ac h1)) Ab,?_⟩⟩;have s3:=s2.trans (Ac (o:= .tup [.int (p:Int),.int (q:Int)]) h1);generalize upd HY t1 (.tup [.int (p:Int),.int (q:Int)])=H3 at s3 ⊢;refine⟨_,rfl,_,rfl,_,rfl,small (by simp),λt2 h2=>⟨d,_,rfl,hT.get hq hp (s3.trans (Ac h2)) Ab,?_⟩⟩;have s4:=s3.trans (Ac (o:= .tup [.int (q:Int),.int (p:Int)]) h2);generalize upd H3 t2 (.tup [.int (q:Int),.int (p:Int)])=H4 at s4 ⊢;refine⟨rfl,_,rfl,B7 (λg=>absurd g (by rw[hE.sym p hp q hq];simp)) λ_=> ?_⟩;refine⟨_,rfl,_,rfl,_,rfl,small (by simp),λt3 h3=>⟨d,_,rfl,hT.get hp hp (s4.trans (Ac h3)) Ab,_,rfl,B7 (λg=>absurd g (by rw[hE.self p hp];simp)) λ_=> ?_⟩⟩;have s5:=s4.trans (Ac (o:= .tup [.int (p:Int),.int (p:Int)]) h3);generalize upd H4 t3 (.tup [.int (p:Int),.int (p:Int)])=H5 at s5 ⊢;clear s4 s3 h1 h2 h3;dsimp only[B6];refine⟨_,rfl,pl,rfl,⟨_,SqL.of (s5 _ _ hpl)⟩,λD hD=>Cz (K:=K) (a:=pl) (xs:=nV P) (λj σ ys H6=>∃(u:Option V),σ=[u,some (.ref d),some (.int (p:Int))]/\ys=((P.take j).map λv=>V.bl (r p v))/\Same H5 H6/\H6 D=some (.lst ys)) ⟨none,rfl,rfl,Ac hD,Ab⟩ (λj σ ys H7 _ ⟨_,_,_,e,f⟩=>⟨SqL.of (e _ _ (s5 _ _ hpl)),f⟩) ?_ ?_⟩
    ·rintro j x σ ys H6 hx ⟨u,rfl,rfl,s6,D6⟩;obtain⟨v,ev,rfl⟩:=Dt hx;have hv:=mem_of_getElem? ev;refine⟨_,rfl,_,rfl,_,rfl,small (by simp),λt4 h4=>⟨d,_,rfl,hT.get hp hv ((s5.trans s6).trans (Ac h4)) Ab,?_⟩⟩;have D7:=Ac (o:= .tup [.int (p:Int),.int (v:Int)]) h4 _ _ D6;refine⟨D7,Ap (by rw[If,Qb0];omega),_,rfl,by rw[Qb2,ev,map_append];rfl,A8 (s6.trans (Ac h4)) hD,Ab⟩
    rintro σ ys H6 ⟨u,rfl,rfl,s6,D6⟩;rw[show (nV P).length=P.length by unfold nV;simp,Qb8] at D6;have s7:=s5.trans s6;refine⟨_,rfl,_,rfl,_,rfl,small (by simp),λt5 h5=>⟨d,_,rfl,hT.get hp hq (s7.trans (Ac h5)) Ab,_,rfl,?_⟩⟩;have s8:=s7.trans (Ac (o:= .tup [.int (p:Int),.int (q:Int)]) h5);have D8:=Ac (o:= .tup [.int (p:Int),.int (q:Int)]) h5 _ _ D6;generalize upd H6 t5 (.tup [.int (p:Int),.int (q:Int)])=H8 at s8 D8 ⊢;clear s5 s6 s7 D6 hD h5;refine B7 (λrr=> ?_) (λ_=>C4 ⟨_,_,rfl,s8⟩);refine⟨_,rfl,_,rfl,pl,rfl,⟨_,SqL.of (s8 _ _ hpl)⟩,λD2 hD2=>Cz (K:=K) (a:=pl) (xs:=nV P) (λj σ ys H9=>∃(u:Option V),σ=[u,some (.ref d),some (.int (q:Int))]/\ys=((P.take j).map λv=>V.bl (r q v))/\Same H8 H9/\H9 D2=some (.lst ys)) ⟨none,rfl,rfl,Ac hD2,Ab⟩ (λj σ ys H7 _ ⟨_,_,_,e,f⟩=>⟨SqL.of (e _ _ (s8 _ _ hpl)),f⟩) ?_ ?_⟩
    ·rintro j x σ ys H9 hx ⟨u,rfl,rfl,s9,D9⟩;obtain⟨v,ev,rfl⟩:=Dt hx;have hv:=mem_of_getElem? ev;refine⟨_,rfl,_,rfl,_,rfl,small (by simp),λt4 h4=>⟨d,_,rfl,hT.get hq hv ((s8.trans s9).trans (Ac h4)) Ab,?_⟩⟩;have D7:=Ac (o:= .tup [.int (q:Int),.int (v:Int)]) h4 _ _ D9;refine⟨D7,Ap (by rw[If,Qb0];omega),_,rfl,by rw[Qb2,ev,map_append];rfl,A8 (s9.trans (Ac h4)) hD2,Ab⟩
    rintro σ ys H9 ⟨u2,rfl,rfl,s9,D9⟩;rw[show (nV P).length=P.length by unfold nV;simp,Qb8] at D9;have er:(P.map λv=>V.bl (r q v))=P.map λv=>V.bl (r p v):=map_congr_left λv hv=>by rw[hE.tr p hp q hq rr v hv]
    rw[er] at D9;refine⟨0,true,D,D2,rfl,rfl,by decide,eqs_row (s9 _ _ D8) D9,_,rfl,C4 ?_⟩;exact⟨_,_,rfl,s8.trans s9⟩
   ·rintro σ HY ⟨u3,u4,rfl,s2⟩;exact⟨_,_,_,rfl,s2⟩
  ·rintro σ HX ⟨u2,u3,u4,rfl,s1⟩;exact k HX s1
end K29
namespace PySem
section
variable{prog:Program}{w:World}{K:Type}[DecidableEq K]{knd:HeapKind prog w K}{A:Around}{E:Value->Shared->Prop}{s:Shared}
theorem Kg{d:Addr}(hd:(d==sysModules)=false):
  MeetsIn prog w (Builtin.«dict.__len__» ⟨[.ref d],[]⟩) (λ_ R s=>∃kvs,s.heap.DictOfH knd d kvs/\R (.ok (.ret (.int kvs.length s.toks))) {s with toks:=s.toks+1}):=
 .of_wp λA R s ⟨kvs,hm,h⟩=>by
  obtain⟨o,es,ep,ho,hc,hdat,he,hk,hn⟩:=hm;show wpAny _ _ (dictSize d >>=_) _ _ s;unfold dictSize;refine Gt (Gt (wpAny_dictEntries ho hdat (Qa0 ?_)));show wpAny _ _ (Builtin.Dict.pendingCount d >>=_) _ _ s;refine Gt (wpAny_pendingCount_other hd ?_);refine wpAny_ret_mkInt ?_;have:es.size=kvs.length:=size_of_entries he;rw[Nat.add_zero,this];exact h
theorem Ma{d:Addr}{kvs:List (K×Addr×Value)}{Q:Value->Shared->Prop}(hd:(d==sysModules)=false)(hm:s.heap.DictOfH knd d kvs)(hfit:(kvs.length:Int)<2 ^ 63)(h:Q (.int kvs.length (s.toks+1)) {s with toks:=s.toks+1+1}):wpAny (model prog w) A (call (.builtin "len") [.ref d]) Q E s:=by
 refine Calls.call_function_entry kind_len plain_len entry_len (args_len1 _) ?_;unfold Builtin.«len»;refine Gt (m:=oneArg "len" _) (Qa0 ?_);refine Gt (m:=callSpecial? (.ref d) (Str.ofString "__len__")) (Qc1 (name:=Str.ofString "__len__") hm.typeIs F.slot_dict_len
  (Qg6 F.slot_dict_len hm.typeIs F.entry_dict_len (F.args_dict_len_1 _) (Kg (knd:=knd) hd) ⟨kvs,hm,?_⟩))
 show wpAny _ _ _ _ _ {s with toks:=s.toks+1};refine Gt (Qb9 (Qa0 ?_));refine Gt (wpAny_letGo ?_);show wpAny _ _ (if ((kvs.length:Nat):Int)<0 then _ else _) _ _ _;rw[Qa1 (by omega)];show wpAny _ _ (if ((kvs.length:Nat):Int) ≥ 2 ^ 63 then _ else _) _ _ _;rw[Qa1 (by omega)];exact Gt (wpAny_mkInt (Qa0 ⟨_,rfl,h⟩))
end
end PySem
namespace L2
open PySem PySem.Spec PyProof.Rows
theorem M8{X:Cx}:Dv X (.builtin "len") (λxs H Q=>∃a kvs,xs=[V.ref a]/\H a=some (.dT kvs)/\Q (.int kvs.length) H):=by
 intro pins s σ H xs us Q I r h;obtain⟨a,kvs,rfl,ha,q⟩:=h;obtain⟨u,rfl,ru⟩:=Dg r;cases ru;obtain⟨z,hd,vs,rel,dd⟩:=V7 I.hok ha;have e:=Paired.length rel;refine Ma hd dd (by rw[<-e];rw[Qb3] at z;omega) ?_;rw[<-e];exact⟨.int kvs.length,H,I.tok _,⟨_,rfl⟩,q⟩
end L2
namespace K29
variable{P:Program}{w:World}{K:Frag}{mg:Str->Option Value}{base:Heap}{C I:Addr}
open PySem L2 Wk
def grp(P:List Nat)(r:Nat->Nat->Bool)(p:Nat):List Nat:=P.filter λq=>r p q
def Jw(g:List Nat):List Key:=g.map λ(q:Nat)=>Sum.inl (q:Int)
theorem keyG_V(g:List Nat):(Jw g).map kV=nV g:=by
 unfold Jw nV;rw[map_map,map_map];rfl
structure Grps(P:List Nat)(r:Nat->Nat->Bool)(j:Nat)(kvs:List (List Key×V)):Prop where
 nd:(kvs.map (·.1)).Nodup
 all:∀p∈P.take j,Jw (grp P r p)∈kvs.map (·.1)
 own:∀k∈kvs.map (·.1),∃p∈P,k=Jw (grp P r p)
theorem Jq{κ:Type}[DecidableEq κ](kvs:List (κ×V))(k:κ)(y:V):(Bw kvs k y).map (·.1)=if k∈kvs.map (·.1) then kvs.map (·.1) else kvs.map (·.1)++[k]:=by
 unfold Bw;by_cases g:(kvs.any λkv=>decide (kv.1=k))=true
 ·have m:k∈kvs.map (·.1):=by
   obtain⟨kv,h,e⟩:=List.any_eq_true.mp g;exact mem_map.mpr ⟨kv,h,Qc2 e⟩
  rw[Qa2 g,Qa2 m,map_map];refine map_congr_left λkv _=> ?_;show (if kv.1=k then (kv.1,y) else kv).1=kv.1;split<;> rfl
 ·have m:k ∉ kvs.map (·.1):=λh=>by
   obtain⟨kv,h,e⟩:=mem_map.mp h;exact g (List.any_eq_true.mpr ⟨kv,h,decide_eq_true e⟩)
  rw[Qa1 g,Qa1 m,map_append];rfl
theorem Grps.nil(P:List Nat)(r:Nat->Nat->Bool):Grps P r 0 []:=⟨.nil,λp hp=>by simp at hp,λk hk=>by simp at hk⟩
theorem Grps.put{P:List Nat}{r:Nat->Nat->Bool}{j p:Nat}{kvs:List (List Key×V)}(h:Grps P r j kvs)(hp:P[j]? =some p)(y:V):Grps P r (j+1) (Bw kvs (Jw (grp P r p)) y):=by
 have pm:=mem_of_getElem? hp;have tk:P.take (j+1)=P.take j++[p]:=by rw[Qb2,hp];rfl
 refine⟨?_,λq hq=> ?_,λk hk=> ?_⟩
 ·rw[Jq];split
  ·exact h.nd
  ·rename_i g;rw[nodup_append];refine⟨h.nd,Qd3.mpr ⟨by simp,.nil⟩,λa ha b hb e=> ?_⟩;rw[mem_singleton.mp hb] at e;exact g (e▸ha)
 ·rw[Jq];rw[tk] at hq;rcases mem_append.mp hq with q1|q1
  ·split
   ·exact h.all q q1
   ·exact mem_append_left _ (h.all q q1)
  ·rw[mem_singleton.mp q1];split
   ·assumption
   ·exact mem_append_right _ (mem_singleton.mpr rfl)
 ·rw[Jq] at hk;split at hk
  ·exact h.own k hk
  ·rcases mem_append.mp hk with q1|q1
   ·exact h.own k q1
   ·exact⟨p,pm,mem_singleton.mp q1⟩
theorem Grps.few{P:List Nat}{r:Nat->Nat->Bool}{j:Nat}{kvs:List (List Key×V)}(h:Grps P r j kvs):kvs.length<=P.length:=by
 have:(kvs.map (·.1)).length<=(P.map λp=>Jw (grp P r p)).length:=Nodup.length_le_of_subset h.nd λk hk=>by
  obtain⟨p,hp,e⟩:=h.own k hk;exact mem_map.mpr ⟨p,hp,e.symm⟩
 simpa using this
def V6(N:Nat)(S:List T4)(k:List Key):Nat:=(Jc N S).getD (match k with|Sum.inl i::_=>i.toNat|_=>0) 0
section
variable{N:Nat}{S:List T4}{P:List Nat}
theorem grp_mem{P:List Nat}{p q:Nat}{r:Nat->Nat->Bool}:q∈grp P r p↔q∈P/\r p q=true:=mem_filter
theorem Yz{r:Nat->Nat->Bool}(hE:Equi P r){p q:Nat}(hp:p∈P)(hq:q∈P)(h:r p q=true):grp P r p=grp P r q:=by
 unfold grp;exact filter_congr λv hv=>hE.tr p hp q hq h v hv
theorem Ky(hS:InN N S)(hN:N<=60)(hP:∀p∈P,p<N){p:Nat}(hp:p∈P):V6 N S (Jw (grp P (joB N S) p))∈lsF N S/\Reach S (V6 N S (Jw (grp P (joB N S) p))) p:=by
 have pm:p∈grp P (joB N S) p:=grp_mem.mpr ⟨hp,(Oy hS hN hP).self p hp⟩;cases e:grp P (joB N S) p with
 |nil=>rw[e] at pm;cases pm
 |cons v l=>
  have vm:v∈grp P (joB N S) p:=by rw[e];exact Qa9 ..
  obtain⟨vP,rv⟩:=grp_mem.mp vm;obtain⟨vN,rr⟩:=(Du hS hN (hP p hp)).mp rv;have:=lab_ls hS hN vN;show (Jc N S).getD ((v:Int)).toNat 0∈_/\Reach S ((Jc N S).getD ((v:Int)).toNat 0) p;rw[Qd4];exact⟨this.1,this.2.trans rr.symm⟩
theorem Grps.le(hS:InN N S)(hN:N<=60)(hP:∀p∈P,p<N){j:Nat}{kvs:List (List Key×V)}(h:Grps P (joB N S) j kvs):kvs.length<=(lsF N S).length:=by
 have hE:=Oy hS hN hP;have nd:((kvs.map (·.1)).map (V6 N S)).Nodup:=by
  refine Qc4.mpr ?_;refine Pairwise.imp_of_mem ?_ h.nd;intro a b ha hb ne e;obtain⟨p,hp,rfl⟩:=h.own a ha;obtain⟨q,hq,rfl⟩:=h.own b hb;have r1:=(Ky hS hN hP hp).2;have r2:=(Ky hS hN hP hq).2;rw[e] at r1;exact ne (by rw[Yz hE hp hq ((Du hS hN (hP p hp)).mpr ⟨hP q hq,r1.symm.trans r2⟩)])
 have:=Nodup.length_le_of_subset nd (l₂:=lsF N S) λv hv=>by
  obtain⟨k,hk,rfl⟩:=mem_map.mp hv;obtain⟨p,hp,rfl⟩:=h.own k hk;exact(Ky hS hN hP hp).1
 simpa using this
theorem ls_nd:(lsF N S).Nodup:=ls_up.imp λh=>ne_of_lt h
theorem Grps.ge(hS:InN N S)(hN:N<=60)(hP:∀p∈P,p<N)(all:∀v,v<N->v∈P){kvs:List (List Key×V)}(h:Grps P (joB N S) P.length kvs):(lsF N S).length<=kvs.length:=by
 have:=Nodup.length_le_of_subset (ls_nd (N:=N) (S:=S)) (l₂:=(kvs.map (·.1)).map (V6 N S)) λl hl=>by
  have lP:=all l (Ha hl);have k:=h.all l (by rw[Qb8];exact lP);refine mem_map.mpr ⟨_,k,?_⟩;have q:=Ky hS hN hP lP;exact P8 hS hN q.1 hl q.2
 simpa using this
theorem Z2(hS:InN N S)(hN:N<=60)(nd:P.Nodup){p:Nat}(hp:p<N):(grp P (joB N S) p).length<=(Az N S p).length:=
 Nodup.length_le_of_subset (nd.sublist Qg8) λv hv=>Qc2 (grp_mem.mp hv).2
theorem grp_eq(hS:InN N S)(hN:N<=60)(nd:P.Nodup)(all:∀v,v<N->v∈P){p:Nat}(hp:p<N):(grp P (joB N S) p).length=(Az N S p).length:=by
 refine Nat.le_antisymm (Z2 hS hN nd hp) (Nodup.length_le_of_subset ((List.nodup_range).sublist Qg8) λv hv=> ?_);have:=(Cp hS hp hN).mp hv;exact grp_mem.mpr ⟨all v this.1,decide_eq_true hv⟩
theorem all_of(nd:P.Nodup)(hP:∀p∈P,p<N)(l:P.length=N):∀v,v<N->v∈P:=λv hv=>Classical.byContradiction λg=>by
 have:=Nodup.length_le_of_subset (Qd3.mpr ⟨g,nd⟩) (l₂:=List.range N) λu hu=>by
  rcases Qa6.mp hu with rfl|h
  ·exact mem_range.mpr hv
  ·exact mem_range.mpr (hP u h)
 simp at this;omega
theorem grp_size(hS:InN N S)(hN:N<=60)(hP:∀p∈P,p<N){p q:Nat}(hp:p∈P)(hq:q∈grp P (joB N S) p):(Az N S q).length=(Az N S p).length:=by
 obtain⟨qP,r⟩:=grp_mem.mp hq;obtain⟨qN,rr⟩:=(Du hS hN (hP p hp)).mp r;rw[Kj hS (hP p hp) qN hN rr]
end
theorem one_size{ns ms:List Int}{c:Int}(ne:ns≠[])(h:∀x∈ns,x=c)(nd:ms.Nodup)(m:∀x,x∈ms↔x∈ns):ms.length=1:=by
 match ms,nd,m with
 |[],_,m=>
  obtain⟨x,l,e⟩:=List.exists_cons_of_ne_nil ne;have:=(m x).mpr (by rw[e];exact Qa9 ..);cases this
 |[x],_,_=>rfl
 |x::y::l,nd,m=>
  have h1:=h x ((m x).mp (Qa9 ..));have h2:=h y ((m y).mp (Qa8 _ (Qa9 ..)));rw[h1,h2] at nd;exact absurd (Qa9 ..) (Qd3.mp nd).1
theorem hu8{A:Around}{k:Nat}(hr:Room k A):A.units+8<cLine:=lt_of_le_of_lt (Nat.add_le_add_left (by decide:8<=64) _) hr.units
def prP(P:List Nat):List (Nat×Nat):=P.flatMap λp=>P.map λq=>(p,q)
def PqAt(H:Hp)(rs:List Addr)(Z:List (Nat×Nat)):Prop:=rs.length=Z.length/\∀(i:Nat) r z,rs[i]? =some r->Z[i]? =some z->H r=some (.tup [.int (z.1:Int),.int (z.2:Int)])
theorem PqAt.mono{H H':Hp}{rs:List Addr}{Z:List (Nat×Nat)}(h:PqAt H rs Z)(s:∀r xs,H r=some (.tup xs)->H' r=some (.tup xs)):PqAt H' rs Z:=⟨h.1,λi r z a b=>s _ _ (h.2 i r z a b)⟩
theorem PqAt.get{H:Hp}{rs:List Addr}{Z:List (Nat×Nat)}(h:PqAt H rs Z){i:Nat}{r:Addr}(hr:rs[i]? =some r):∃z,Z[i]? =some z/\H r=some (.tup [.int (z.1:Int),.int (z.2:Int)]):=by
 have hi:i<Z.length:=by rw[<-h.1];exact(List.getElem?_eq_some_iff.mp hr).1
 exact⟨Z[i],Cc hi,h.2 i r _ hr (Cc hi)⟩
theorem PqAt.app{H:Hp}{rs rs':List Addr}{Z Z':List (Nat×Nat)}(h:PqAt H rs Z)(h':PqAt H rs' Z'):PqAt H (rs++rs') (Z++Z'):=by
 refine⟨by rw[Qa3,Qa3,h.1,h'.1],λi x y hx hy=> ?_⟩;by_cases hi:i<rs.length
 ·rw[getElem?_append_left hi] at hx;rw[getElem?_append_left (by rw[<-h.1];exact hi)] at hy;exact h.2 i x y hx hy
 ·rw[getElem?_append_right (by omega)] at hx;rw[getElem?_append_right (by rw[<-h.1];omega),<-h.1] at hy;exact h'.2 _ x y hx hy
theorem PqAt.one{H:Hp}{r:Addr}{z:Nat×Nat}(h:H r=some (.tup [.int (z.1:Int),.int (z.2:Int)])):PqAt H [r] [z]:=⟨rfl,λi x y hx hy=>by
 match i,hx,hy with
 |0,hx,hy=>cases hx;cases hy;exact h⟩
theorem prP_take{P:List Nat}{i p:Nat}(h:P[i]? =some p):((P.take (i+1)).flatMap λp=>P.map λq=>(p,q))=((P.take i).flatMap λp=>P.map λq=>(p,q))++P.map λq=>(p,q):=by
 rw[Qb2,h,flatMap_append];simp
theorem Vv{P:List Nat}(Q:List Nat):(Q.flatMap λp=>P.map λq=>(p,q)).length=Q.length * P.length:=by
 induction Q with
 |nil=>simp
 |cons x l ih=>rw[Qb7,Qa3,ih,If,Qb4,Nat.add_mul];omega
def Ts(z:Nat×Nat):List Key:=[Sum.inl (z.1:Int),Sum.inl (z.2:Int)]
theorem prP_mem{P:List Nat}{p q:Nat}:(p,q)∈prP P↔p∈P/\q∈P:=by
 unfold prP;rw[mem_flatMap];constructor
 ·rintro⟨x,hx,h⟩;obtain⟨y,hy,e⟩:=mem_map.mp h;cases e;exact⟨hx,hy⟩
 ·rintro⟨hp,hq⟩;exact⟨p,hp,mem_map.mpr ⟨q,hq,rfl⟩⟩
theorem prP_nd{P:List Nat}(nd:P.Nodup):(prP P).Nodup:=by
 unfold prP;have:∀Q:List Nat,Q.Nodup->(Q.flatMap λp=>P.map λq=>(p,q)).Nodup:=by
  intro Q
  induction Q with
  |nil=>intro _;simp
  |cons x l ih=>
   intro h;obtain⟨h1,h2⟩:=Qd3.mp h;rw[Qb7,nodup_append];refine⟨Qc4.mpr (nd.imp λh e=>h (Prod.mk.inj e).2),ih h2,λa ha b hb e=> ?_⟩;subst e;obtain⟨q,_,rfl⟩:=mem_map.mp ha;obtain⟨y,hy,h⟩:=mem_flatMap.mp hb;obtain⟨q',_,e⟩:=mem_map.mp h;rw[<-(Prod.mk.inj e).1] at h1;exact h1 hy
 exact this P nd
theorem Vs{Z:List (Nat×Nat)}(nd:Z.Nodup):(Z.map Ts).Nodup:=Qc4.mpr (nd.imp λ{a b} h e=>h (by
 unfold Ts at e;injection e with e1 e2;injection e2 with e3 _;injection e1 with e1;injection e3 with e3;exact Prod.ext (by omega) (by omega)))
def Ml:Sp:=λvs H Q _=>∃(y:Int) (h pl:Addr) (N:Nat) (ds:List Dd) (n:Nat) (P:List Nat),vs=[.int y,.ref h,.int (n:Int),.ref pl]/\HistAt H h N ds/\Db N ds/\1<=N/\N<=24/\n<=ds.length/\H pl=some (.lst (nV P))/\P.length<=6/\P.Nodup/\(∀p∈P,p<N)/\∀H',Same H H'->Q (.bl true) H'
theorem Vp{H:Hp}{rs rs':List Addr}{ds ds':List Ak}(h:AksAt H rs ds)(h':AksAt H rs' ds'):AksAt H (rs++rs') (ds++ds'):=by
 refine⟨by rw[Qa3,Qa3,h.1,h'.1],λi x y hx hy=> ?_⟩;by_cases hi:i<rs.length
 ·rw[getElem?_append_left hi] at hx;rw[getElem?_append_left (by rw[<-h.1];exact hi)] at hy;exact h.2 i x y hx hy
 ·rw[getElem?_append_right (by omega)] at hx;rw[getElem?_append_right (by rw[<-h.1];omega),<-h.1] at hy;exact h'.2 _ x y hx hy
def ksM(n:Nat)(P:List Nat):List Ak:=((prP P).map λz=>Ak.jo n z.1 z.2)++(P.map (Ak.si n)++[Ak.pa n])
theorem ks_ans(N n:Nat)(ds:List Dd)(P:List Nat):(ksM n P).map (Iu N ds)=((prP P).map λz=>V.bl (joB N (thr (ds.take n)) z.1 z.2))++((P.map λp=>V.int ((Az N (thr (ds.take n)) p).length:Nat))++[V.int ((lsF N (thr (ds.take n))).length:Nat)]):=by
 unfold ksM;rw[map_append,map_append,map_map,map_map];rfl
theorem Yv(A B:List V):Ee (A++B) none (some (A.length:Int))=A:=by
 rw[Jz (by rw[Qa3];omega)];exact List.take_left' rfl
theorem Zn(A B:List V)(c:V):Ee (A++(B++[c])) (some (A.length:Int)) (some (-1))=B:=by
 unfold Ee;rw[HT.sIx_nat];have e:HT.sIx (A++(B++[c])).length (A++(B++[c])).length (some (-1))=A.length+B.length:=by
  unfold HT.sIx;dsimp only;rw[Qa2 (by decide)];simp only[Qa3,Qb4,Qe9];omega
 rw[e,min_eq_left (by simp only[Qa3];omega),List.drop_left' rfl,Nat.add_sub_cancel_left];exact List.take_left' rfl
theorem Zt{H:Hp}{d:Addr}{P:List Nat}{r:Nat->Nat->Bool}(nd:P.Nodup)(h:H d=some (.dT (C5 ((prP P).map Ts) ((prP P).map λz=>V.bl (r z.1 z.2))))):ToldD H d P r:=by
 refine⟨_,h,λp hp q hq=> ?_⟩;obtain⟨i,hi⟩:=getElem?_of_mem (prP_mem.mpr ⟨hp,hq⟩);exact So (by rw[If,If]) (Vs (prP_nd nd)) (i:=i) (by rw[getElem?_map,hi];rfl) (by rw[getElem?_map,hi];rfl)
theorem Ij{H:Hp}{d:Addr}{P:List Nat}{f:Nat->Nat}(nd:P.Nodup)(h:H d=some (.dK (C5 ((P.map ofNat).map Sum.inl) (P.map λp=>V.int (f p:Nat))))){p:Nat}(hp:p∈P):DGet H d (.int (p:Int)) (some (.int (f p:Nat))):=by
 obtain⟨i,hi⟩:=getElem?_of_mem hp;have:=DGet.k (k:=Sum.inl (p:Int)) h
 rwa [So (by simp) (Qc4.mpr (Qc4.mpr (nd.imp λh e=>h (by injection e with e;exact ofNat.inj e)))) (i:=i) (y:= .int (f p:Nat)) (by rw[getElem?_map,getElem?_map,hi];rfl) (by rw[getElem?_map,hi];rfl)] at this
theorem Ei{H:Hp}{r l:Addr}{xs ys:List V}(h:H r=some (.tup xs))(g:H l=some (.lst ys)):r≠l:=λe=>by rw[e,g] at h;cases h
theorem scMoment:Av ["_law_way","_law_history","_law_n","_law_places_here","_law_pairs","_law_one","_law_asks_here","_law_answers_here","_law_told","_law_sizes","_law_groups","_law_group"] ["_law_way","_law_history","_law_n","_law_places_here"] (Ah En):=⟨rfl,rfl,rfl,by decide+kernel,rfl,by decide+kernel,by decide+kernel⟩
theorem Xk{f:Addr}{fd:FuncData}(F:Fun K "_law_moment_right" "_law_moment_right" En f fd)(T:Txt K mg C I)(GAnswers:Cl P w K mg base 15 "_law_answers" ["_law_way","_law_history","_law_asks_here"] Gu)(GTogether:Cl P w K mg base 15 "_law_together" ["_law_places_here","_law_told"] Hq):
  FnOk P w K mg base CX0 16 f fd ["_law_way","_law_history","_law_n","_law_places_here"] Ml:=by
 refine F.ok scMoment (λvs H Q E h=> ?_) (λcdv A outer s H vs Q E hr h=> ?_)
 ·obtain⟨_,_,_,_,_,_,_,rfl,_⟩:=h;rfl
 ·obtain⟨y,h,pl,N,ds,n,P,rfl,hH,hR,N1,N24,hn,hpl,P6,nd,hP,k⟩:=h;refine⟨_,Ae (Aq (i:=4) scMoment.nd rfl (Or.inl rfl) (Bh Ad))
   (Ae (Cb PassesOwn.never rfl (Cd (pv 3)) (Aj (i:=5) scMoment.nd rfl (Or.inr rfl)) (Ag (Co (De Qc3 PySem.F.slot_list_extend PySem.F.type_list_extend Nz (pv 4) (Aa (Cg (T:=["_law_other"]) (F:=["_law_one"]) (js:=[5]) (cs (osc:=Ah En)) rfl (Cd (pv 3)) (λ_ _ _ _ _=>Aj (i:=0) (show (["_law_other","_law_one"]:List Str).Nodup by decide+kernel) rfl (Or.inl rfl)) (λ_ _ _ _ _=>Ce) (λ_ _ _ _ _=>A1 (Aa (pv 1) (Aa (pv 0) Ad)))) Ad)))))
   (Ae (Aq (i:=6) scMoment.nd rfl (Or.inl rfl) (Au P0 (Cg (T:=["_law_one","_law_other"]) (F:=["_law_n"]) (js:=[2]) (cs (osc:=Ah En)) rfl (Cd (pv 4)) (λ_ _ _ _ _=>Fk K 2 rfl rfl (An (Aj (i:=0) (show (["_law_one","_law_other","_law_n"]:List Str).Nodup by decide+kernel) rfl (Or.inl rfl)) (An (Aj (i:=1) (show (["_law_one","_law_other","_law_n"]:List Str).Nodup by decide+kernel) rfl (Or.inl rfl)) Bk))) (λ_ _ _ _ _=>Ce) (λ_ _ _ _ _=>A1 (Aa Bs (Aa (pv 2) (Aa (pv 0) (Aa (pv 1) Ad)))))) (Cg (T:=["_law_place"]) (F:=["_law_n"]) (js:=[2]) (cs (osc:=Ah En)) rfl (Cd (pv 3)) (λ_ _ _ _ _=>Aj (i:=0) (show (["_law_place","_law_n"]:List Str).Nodup by decide+kernel) rfl (Or.inl rfl)) (λ_ _ _ _ _=>Ce) (λ_ _ _ _ _=>A1 (Aa Bs (Aa (pv 1) (Aa (pv 0) Ad)))))))
   (Ae (Aq (i:=7) scMoment.nd rfl (Or.inl rfl) (A7 GAnswers hr (Aa (pv 0) (Aa (pv 1) (Aa (Bb Ba (by rfl) T.tuple (by decide+kernel) (Aa (Au P0 (pv 6) (Bh (Aa (A1 (Aa Bs (Aa (pv 2) Ad))) Ad))) Ad)) Ad)))))
   (Ae (Aq (i:=8) scMoment.nd rfl (Or.inr rfl) (Mi rfl (hu8 hr) (by rfl) T.dict (by rfl) T.zip (Aa (pv 4) (Aa (Ch (r:=Lo K) El (pv 7) Dw (Bt (A0 Ay (by rfl) T.len PySem.boot_len (Aa (pv 4) Ad)))) Ad))))
   (Ae (Aq (i:=9) scMoment.nd rfl (Or.inr rfl) (Mi rfl (hu8 hr) (by rfl) T.dict (by rfl) T.zip (Aa (pv 3) (Aa (Ch (r:=Lo K) El (pv 7) (Bt (A0 Ay (by rfl) T.len PySem.boot_len (Aa (pv 4) Ad))) (Bt (Mj Hh Af))) Ad))))
   (Ae (Br (Hm (Gg (A7 GTogether hr (Aa (pv 3) (Aa (pv 8) Ad))))) (Ag (As Gb)) Bd)
   (Ae (Aq (i:=10) scMoment.nd rfl (Or.inl rfl) Rk)
   (Ae (Cb PassesOwn.never rfl (Cd (pv 3)) (Aj (i:=5) scMoment.nd rfl (Or.inr rfl)) (Ae (Aq (i:=11) scMoment.nd rfl (Or.inl rfl) (Bb Ba (by rfl) T.tuple (by decide+kernel) (Aa (Cg (T:=["_law_other"]) (F:=["_law_told","_law_one"]) (js:=[8,5]) (cs (osc:=Ah En)) rfl (Cd (pv 3)) (λ_ _ _ _ _=>Aj (i:=0) (show (["_law_other","_law_told","_law_one"]:List Str).Nodup by decide+kernel) rfl (Or.inl rfl)) (λ_ _ _ _ _=>Ep (Gg (Dh (Dk hr) (pv 1) (A1 (Aa (pv 2) (Aa (pv 0) Ad))) (λ_ _=>rfl)))) (λ_ _ _ _ _=>pv 0)) Ad)))
   (Ae (Kl (Dk hr) (pv 10) (pv 11) Gb rfl)
   (Ae (Br (PW.pt (Rw (Ax op_lt (Dh (Dk hr) (pv 9) (pv 5) (λ_ _=>rfl)) (A0 Ay (by rfl) T.len PySem.boot_len (Aa (pv 11) Ad)) (Aw _)) (Lw (Ax Qu (Xo rfl (Cg (T:=["_law_other"]) (F:=["_law_sizes"]) (js:=[9]) (cs (osc:=Ah En)) rfl (Ds (pv 11)) (λ_ _ _ _ _=>Aj (i:=0) (show (["_law_other","_law_sizes"]:List Str).Nodup by decide+kernel) rfl (Or.inl rfl)) (λ_ _ _ _ _=>Ce) (λ_ _ _ _ _=>Dh (Dk hr) (pv 1) (pv 0) (λ_ _=>rfl))) (by rfl) T.len (by rfl) T.set) Af (Aw _))))) (Ag (As Gb)) Bd)
   (Ag (Br (PW.pt (Hd (Ax Bq (A0 Ay (by rfl) T.len PySem.boot_len (Aa (pv 3) Ad)) (Ao At (pv 1) Af (λ_ _=>rfl)) (Aw _)) (Fm (Ax Qu (Dh (Dk hr) (pv 9) (pv 5) (λ_ _=>rfl)) (A0 Ay (by rfl) T.len PySem.boot_len (Aa (pv 11) Ad)) (Aw _))))) (Ag (As Gb)) Bd))))))
   (Ag (As (Z1 (Cr Bq (Ao At (pv 7) (Mj Hh Af) (λ_ _=>rfl)) (A0 M8 (by rfl) T.len PySem.boot_len (Aa (pv 10) Ad)) (Aw _)) (Hl (O2 (Cr op_lt (A0 Ay (by rfl) T.len PySem.boot_len (Aa (pv 3) Ad)) (Ao At (pv 1) Af (λ_ _=>rfl)) (Aw _)) (Hl (Cr op_ge (Ao At (pv 7) (Mj Hh Af) (λ_ _=>rfl)) (A0 M8 (by rfl) T.len PySem.boot_len (Aa (pv 10) Ad)) (Aw _)))))))))))))))),?_⟩
  refine⟨small (by simp),λl hl=> ?_⟩;have s1:=Ac (o:= .lst []) hl;have l1:=Ab (H:=H) (a:=l) (o:= .lst []);generalize upd H l (.lst [])=H1 at s1 l1 ⊢;refine⟨_,rfl,pl,rfl,⟨_,SqL.of (s1 _ _ hpl)⟩,Ej (K:=K) (a:=pl) (xs:=nV P) (λi σ HX=>∃(u5:Option V) (rs:List Addr),σ=[some (.int y),some (.ref h),some (.int (n:Int)),some (.ref pl),some (.ref l),u5,none,none,none,none,none,none]/\Same H HX/\HX l=some (.lst (rs.map V.ref))/\PqAt HX rs ((P.take i).flatMap λp=>P.map λq=>(p,q))) ⟨_,[],rfl,s1,l1,⟨rfl,λi r z e=>by simp at e⟩⟩ (λi σ HX _ ⟨_,_,_,s,_⟩=>SqL.of (s _ _ hpl)) ?_ ?_⟩
  ·rintro i x σ HX hx ⟨u5,rs,rfl,s2,l2,A2⟩;obtain⟨p,ep,rfl⟩:=Dt hx;refine⟨_,rfl,.inl ⟨rfl,_,SqL.of l2⟩,_,rfl,pl,rfl,⟨_,SqL.of (s2 _ _ hpl)⟩,λD hD=>Cz (K:=K) (a:=pl) (xs:=nV P) (λj σ ys H6=>∃(u:Option V) (qs:List Addr),σ=[u,some (.int (p:Int))]/\ys=qs.map V.ref/\Same HX H6/\H6 D=some (.lst ys)/\PqAt H6 qs ((P.take j).map λq=>(p,q))) ⟨none,[],rfl,rfl,Ac hD,Ab,⟨rfl,λi r z e=>by simp at e⟩⟩ (λj σ ys H7 _ ⟨_,_,_,_,e,f,_⟩=>⟨SqL.of (e _ _ (s2 _ _ hpl)),f⟩) ?_ ?_⟩
   ·rintro j x σ ys H6 hx ⟨u,qs,rfl,rfl,s6,D6,A6⟩;obtain⟨q,eq,rfl⟩:=Dt hx;have ql:qs.length<=6:=by rw[A6.1,If,Qb0];omega
    refine⟨_,rfl,_,rfl,small (by simp),λr hr'=> ?_⟩;have s7:=Ac (o:= .tup [.int (p:Int),.int (q:Int)]) hr';have e7:=Ab (H:=H6) (a:=r) (o:= .tup [.int (p:Int),.int (q:Int)]);generalize upd H6 r (.tup [.int (p:Int),.int (q:Int)])=H7 at s7 e7 ⊢;have D7:=s7 _ _ D6;refine⟨D7,Ap (by rw[If];omega),_,qs++[r],rfl,by rw[map_append];rfl,A8 (s6.trans s7) hD,Ab,?_⟩;rw[Qb2,eq,map_append];refine(A6.mono λb xs e=> ?_).app (.one ?_)
    ·rw[Ai (Ei (s7 _ _ e) D7)];exact s7 _ _ e
    ·rw[Ai (Ei e7 D7)];exact e7
   rintro σ ys H6 ⟨u,qs,rfl,rfl,s6,D6,A6⟩;rw[show (nV P).length=P.length by unfold nV;simp,Qb8] at A6;have l6:=s6 _ _ l2;have ql:qs.length<=6:=by rw[A6.1,If];omega
   have rl:rs.length<=36:=by
    rw[A2.1,Vv,Qb0];exact le_trans (Nat.mul_le_mul (le_trans (Nat.min_le_right ..) P6) P6) (by decide)
   refine⟨l,D,_,_,rfl,rfl,l6,D6,small (by rw[If,If];omega),?_⟩;refine⟨_,rs++qs,rfl,A8 (s2.trans s6) hl,by rw[Ab,map_append],?_⟩;rw[prP_take ep];refine(A2.mono λb xs e=> ?_).app (A6.mono λb xs e=> ?_)
   ·rw[Ai (Ei (s6 _ _ e) l6)];exact s6 _ _ e
   ·rw[Ai (Ei e l6)];exact e
  rintro σ H2 ⟨u5,rs,rfl,s2,l2,A2⟩;rw[show (nV P).length=P.length by unfold nV;simp,Qb8] at A2;have rl:rs.length<=36:=by
   rw[A2.1,Vv];exact le_trans (Nat.mul_le_mul P6 P6) (by decide)
  change PqAt H2 rs (prP P) at A2;clear l1 s1;refine⟨_,rfl,l,rfl,⟨_,SqL.of l2⟩,λD hD=>Cz (K:=K) (a:=l) (xs:=rs.map V.ref) (λj σ ys H6=>∃(u v:Option V) (qs:List Addr),σ=[u,v,some (.int (n:Int))]/\ys=qs.map V.ref/\Same H2 H6/\H6 D=some (.lst ys)/\AksAt H6 qs (((prP P).take j).map λz=>Ak.jo n z.1 z.2)) ⟨none,none,[],rfl,rfl,Ac hD,Ab,⟨rfl,λi r z e=>by simp at e⟩⟩ (λj σ ys H7 _ ⟨_,_,_,_,_,e,f,_⟩=>⟨SqL.of (e _ _ l2),f⟩) ?_ ?_⟩
  ·rintro j x σ ys H6 hx ⟨u,v,qs,rfl,rfl,s6,D6,A6⟩;obtain⟨r,er,rfl⟩:=map_some hx;obtain⟨z,ez,hr6⟩:=A2.get er;have al:qs.length<=36:=by
    rw[A6.1,If,Qb0];exact le_trans (Nat.min_le_right ..) (by rw[<-A2.1];exact rl)
   refine⟨r,_,rfl,SqT.of (s6 _ _ hr6),rfl,_,_,rfl,_,_,rfl,rfl,?_⟩;refine⟨_,rfl,_,rfl,_,rfl,small (by simp),λr2 h2=> ?_⟩;have s7:=Ac (o:= .tup [V.str (Str.ofString "joined"),.int (n:Int),.int (z.1:Int),.int (z.2:Int)]) h2;have e7:=Ab (H:=H6) (a:=r2) (o:= .tup [V.str (Str.ofString "joined"),.int (n:Int),.int (z.1:Int),.int (z.2:Int)]);generalize upd H6 r2 (.tup [V.str (Str.ofString "joined"),.int (n:Int),.int (z.1:Int),.int (z.2:Int)])=H7 at s7 e7 ⊢;have D7:=s7 _ _ D6;refine⟨D7,Ap (by rw[If];omega),_,_,qs++[r2],rfl,by rw[map_append];rfl,A8 (s6.trans s7) hD,Ab,?_⟩;rw[Qb2,ez,map_append];refine AksAt.snoc (A6.mono λb xs e=> ?_) ?_
   ·rw[Ai (Ei (s7 _ _ e) D7)];exact s7 _ _ e
   ·rw[Ai (Ei e7 D7)];exact e7
  rintro σ ys H3 ⟨u,v,as,rfl,rfl,s3,D3,A3⟩;rw[If,A2.1,Qb8] at A3;have al:as.length<=36:=by rw[A3.1,If,<-A2.1];exact rl
  have s23:=s2.trans s3;refine⟨_,rfl,pl,rfl,⟨_,SqL.of (s23 _ _ hpl)⟩,λE2 hE2=>Cz (K:=K) (a:=pl) (xs:=nV P) (λj σ ys H6=>∃(u:Option V) (qs:List Addr),σ=[u,some (.int (n:Int))]/\ys=qs.map V.ref/\Same H3 H6/\H6 E2=some (.lst ys)/\AksAt H6 qs ((P.take j).map (Ak.si n))) ⟨none,[],rfl,rfl,Ac hE2,Ab,⟨rfl,λi r z e=>by simp at e⟩⟩ (λj σ ys H7 _ ⟨_,_,_,_,e,f,_⟩=>⟨SqL.of (e _ _ (s23 _ _ hpl)),f⟩) ?_ ?_⟩
  ·rintro j x σ ys H6 hx ⟨u,qs,rfl,rfl,s6,D6,A6⟩;obtain⟨q,eq,rfl⟩:=Dt hx;have ql:qs.length<=6:=by rw[A6.1,If,Qb0];omega
   refine⟨_,rfl,_,rfl,small (by simp),λr2 h2=> ?_⟩;have s7:=Ac (o:= .tup [V.str (Str.ofString "size"),.int (n:Int),.int (q:Int)]) h2;have e7:=Ab (H:=H6) (a:=r2) (o:= .tup [V.str (Str.ofString "size"),.int (n:Int),.int (q:Int)]);generalize upd H6 r2 (.tup [V.str (Str.ofString "size"),.int (n:Int),.int (q:Int)])=H7 at s7 e7 ⊢;have D7:=s7 _ _ D6;refine⟨D7,Ap (by rw[If];omega),_,qs++[r2],rfl,by rw[map_append];rfl,A8 (s6.trans s7) hE2,Ab,?_⟩;rw[Qb2,eq,map_append];refine AksAt.snoc (A6.mono λb xs e=> ?_) ?_
   ·rw[Ai (Ei (s7 _ _ e) D7)];exact s7 _ _ e
   ·rw[Ai (Ei e7 D7)];exact e7
  rintro σ ys H4 ⟨u2,bs,rfl,rfl,s4,D4,A4⟩;rw[show (nV P).length=P.length by unfold nV;simp,Qb8] at A4;have bl:bs.length<=6:=by rw[A4.1,If];exact P6
  refine⟨D,E2,_,_,rfl,rfl,s4 _ _ D3,D4,small (by rw[If,If];omega),λa5 h5=> ?_⟩;have s5:=Ac (o:= .lst (as.map V.ref++bs.map V.ref)) h5;have e5:=Ab (H:=H4) (a:=a5) (o:= .lst (as.map V.ref++bs.map V.ref));have A5:=Vp (A3.mono λr xs e=>s5 _ _ (s4 _ _ e)) (A4.mono λr xs e=>s5 _ _ e);generalize upd H4 a5 (.lst (as.map V.ref++bs.map V.ref))=H5 at s5 e5 A5 ⊢;have l5:=s5 _ _ (s4 _ _ (s3 _ _ l2));have P5:=A2.mono λr xs e=>s5 _ _ (s4 _ _ (s3 _ _ e));have S5:=(s23.trans s4).trans s5;clear A2 A3 A4 D3 D4 hD hE2 s23 s2 s3 s4 s5 l2 h5;rw[<-map_append] at e5;refine⟨_,rfl,_,rfl,_,rfl,_,rfl,small (by simp),λtq htq=>⟨small (by simp),λl6 hl6=> ?_⟩⟩;have s6:=Ac (o:= .tup [V.str (Str.ofString "parts"),.int (n:Int)]) htq;have e6:=Ab (H:=H5) (a:=tq) (o:= .tup [V.str (Str.ofString "parts"),.int (n:Int)]);generalize upd H5 tq (.tup [V.str (Str.ofString "parts"),.int (n:Int)])=H6 at s6 e6 hl6 ⊢;have s7:=Ac (o:= .lst [V.ref tq]) hl6;have e7:=Ab (H:=H6) (a:=l6) (o:= .lst [V.ref tq]);generalize upd H6 l6 (.lst [V.ref tq])=H7 at s7 e7 ⊢;refine⟨a5,l6,_,_,rfl,rfl,s7 _ _ (s6 _ _ e5),e7,small (by rw[If,Qa3];show _+1<=_;omega),λa8 h8=> ?_⟩;have s8:=Ac (o:= .lst ((as++bs).map V.ref++[V.ref tq])) h8;have e8:=Ab (H:=H7) (a:=a8) (o:= .lst ((as++bs).map V.ref++[V.ref tq]));generalize upd H7 a8 (.lst ((as++bs).map V.ref++[V.ref tq]))=H8 at s8 e8 ⊢;refine⟨a8,_,rfl,.inl ⟨SqL.of e8,λta hta=> ?_⟩⟩;have s9:=Ac (o:= .tup ((as++bs).map V.ref++[V.ref tq])) hta;have e9:=Ab (H:=H8) (a:=ta) (o:= .tup ((as++bs).map V.ref++[V.ref tq]));generalize upd H8 ta (.tup ((as++bs).map V.ref++[V.ref tq]))=H9 at s9 e9 ⊢;have s59:Same H5 H9:=((s6.trans s7).trans s8).trans s9;have A9:AksAt H9 ((as++bs)++[tq]) ((((prP P).map λz=>Ak.jo n z.1 z.2)++P.map (Ak.si n))++[Ak.pa n]):=AksAt.snoc (A5.mono λr xs e=>s59 _ _ e) (s9 _ _ (s8 _ _ (s7 _ _ e6)));rw[show (((prP P).map λz=>Ak.jo n z.1 z.2)++P.map (Ak.si n))++[Ak.pa n]=ksM n P from append_assoc ..] at A9;have e9':H9 ta=some (.tup (((as++bs)++[tq]).map V.ref)):=by rw[e9];simp
  have S9:=S5.trans s59;have l9:=s59 _ _ l5;have P9:=P5.mono λr xs e=>s59 _ _ e;clear A5 P5 S5 l5 s59 s6 s7 s8 s9 e5 e6 e7 e8 e9 htq hl6 h8 hta;have inN:=Pq hR hn;have okk:∀k∈ksM n P,AkOk N ds.length k:=by
   intro k hk;unfold ksM at hk;rcases mem_append.mp hk with g|g
   ·obtain⟨⟨p,q⟩,hz,rfl⟩:=mem_map.mp g;obtain⟨h1,h2⟩:=prP_mem.mp hz;exact⟨hn,hP p h1,hP q h2⟩
   ·rcases mem_append.mp g with g|g
    ·obtain⟨p,hp,rfl⟩:=mem_map.mp g;exact⟨hn,hP p hp⟩
    ·rw[mem_singleton.mp g];exact hn
  have kl:(ksM n P).length<=60:=by
   rw[<-A9.1,Qa3,Qa3];show _+1<=60;omega
  refine⟨y,h,ta,N,ds,_,ksM n P,rfl,hH.same S9,hR,N1,N24,e9',A9,okk,kl,λav H10 s10 eav=> ?_⟩;rw[ks_ans] at eav;have hN:N<=60:=by omega
  have S10:=S9.trans s10;have l10:=s10 _ _ l9;have P10:=P9.mono λr xs e=>s10 _ _ e;clear okk kl A9 e9' S9 l9 P9 s10;generalize hS:thr (ds.take n)=S at inN eav;dsimp only[B6];have ll:(rs.map V.ref).length=((prP P).map λz=>V.bl (joB N S z.1 z.2)).length:=by rw[If,If,P10.1]
  refine⟨_,rfl,_,rfl,_,rfl,l,_,rfl,.inl (SqL.of l10),_,rfl,Fq eav λb1 H11 s11 e11=> ?_⟩;rw[ll,Yv] at e11;obtain⟨J,hJ⟩:=dzT (K:=K) (ks:=(prP P).map Ts) (s11 _ _ l10) (by rw[If];exact P10.1) (λi r k er ek=>by
   rw[getElem?_map] at ek;obtain⟨z,ez,rfl⟩:=map_eq_some_iff.mp ek;exact s11 _ _ (P10.2 i r z er ez)) e11 (by rw[If,If]) (Vs (prP_nd nd)) (by rw[If,<-P10.1];exact lt_of_le_of_lt rl (by rw[Qb3];decide))
  refine⟨l,b1,_,_,J,rfl,SqL.of (s11 _ _ l10),SqT.of e11,by rw[If,If,P10.1],λd8 hd8=> ?_⟩;obtain⟨j1,j2,j3,j4⟩:=hJ d8 hd8;refine⟨j1,j2,j3,?_⟩;rw[j4];clear hJ j1 j2 j3 j4 J;have s12:=s11.trans (Ac (o:= .dT (C5 ((prP P).map Ts) ((prP P).map λz=>V.bl (joB N S z.1 z.2)))) hd8);have e12:=Ab (H:=H11) (a:=d8) (o:= .dT (C5 ((prP P).map Ts) ((prP P).map λz=>V.bl (joB N S z.1 z.2))));generalize upd H11 d8 (.dT (C5 ((prP P).map Ts) ((prP P).map λz=>V.bl (joB N S z.1 z.2))))=H12 at s12 e12 ⊢;have T12:=Zt nd e12;have l12:=s12 _ _ l10;dsimp only[B6];refine⟨_,rfl,_,rfl,_,rfl,l,_,rfl,.inl (SqL.of l12),_,rfl,_,rfl,_,rfl,Fq (s12 _ _ eav) λb2 H13 s13 e13=> ?_⟩;rw[ll] at e13;change H13 b2=some (.tup (Ee _ _ (some (-1)))) at e13;rw[Zn] at e13;have S13:=S10.trans (s12.trans s13);obtain⟨J,hJ⟩:=dzI (K:=K) (ns:=P.map ofNat) (S13 _ _ hpl) e13 (by rw[If,If]) (Qc4.mpr (nd.imp λh e=>h (ofNat.inj e))) (by rw[If];exact lt_of_le_of_lt P6 (by rw[Qb3];decide));refine⟨pl,b2,(P.map ofNat).map V.int,_,J,rfl,SqL.of (S13 _ _ hpl),SqT.of e13,by rw[If,If,If],λd9 hd9=> ?_⟩;obtain⟨j1,j2,j3,j4⟩:=hJ d9 hd9;refine⟨j1,j2,j3,?_⟩;rw[j4];clear hJ j1 j2 j3 j4 J;have s14:=s13.trans (Ac (o:= .dK (C5 ((P.map ofNat).map Sum.inl) (P.map λp=>V.int ((Az N S p).length:Nat)))) hd9);have e14:=Ab (H:=H13) (a:=d9) (o:= .dK (C5 ((P.map ofNat).map Sum.inl) (P.map λp=>V.int ((Az N S p).length:Nat))));generalize upd H13 d9 (.dK (C5 ((P.map ofNat).map Sum.inl) (P.map λp=>V.int ((Az N S p).length:Nat))))=H14 at s14 e14 ⊢;have S14:=S10.trans (s12.trans s14);have eav14:=s14 _ _ (s12 _ _ eav);have T14:=T12.same s14;have Z14:=λ(p:Nat) (hp:p∈P)=>Ij (f:=λp=>(Az N S p).length) nd e14 hp;have hE:=Oy inN hN hP;clear s14 s13 S13 e13 e12 s12 T12 l12 S10 l10 P10 s11 e11 eav hd8 hd9;dsimp only[B6];refine⟨_,rfl,_,rfl,pl,d8,P,joB N S,rfl,S14 _ _ hpl,by omega,T14,hE,λH15 s15=>⟨true,rfl,C4 ?_⟩⟩;have S15:=S14.trans s15;have eav15:=s15 _ _ eav14;have T15:=T14.same s15;have e15:=s15 _ _ e14;clear eav14 T14 S14 s15 Z14 e14;refine λg hg=> ?_;have sg:=Ac (o:= .dT []) hg;have eg:=Ab (H:=H15) (a:=g) (o:= .dT []);generalize upd H15 g (.dT [])=H16 at sg eg ⊢;refine⟨_,rfl,pl,rfl,⟨_,SqL.of (sg _ _ (S15 _ _ hpl))⟩,Ej (K:=K) (a:=pl) (xs:=nV P) (λi σ HX=>∃(u5 u11:Option V) (kvs:List (List Key×V)),σ=[some (.int y),some (.ref h),some (.int (n:Int)),some (.ref pl),some (.ref l),u5,some (.ref a5),some (.ref av),some (.ref d8),some (.ref d9),some (.ref g),u11]/\Same H15 HX/\HX g=some (.dT kvs)/\Grps P (joB N S) i kvs) ⟨_,_,[],rfl,sg,eg,.nil _ _⟩ (λi σ HX _ ⟨_,_,_,_,s,_⟩=>SqL.of (s _ _ (S15 _ _ hpl))) ?_ ?_⟩
  ·rintro i x σ HX hx ⟨u5,u11,kvs,rfl,sX,gX,GX⟩;obtain⟨p,ep,rfl⟩:=Dt hx;have hp:=mem_of_getElem? ep;have SX:=S15.trans sX;have TX:=T15.same sX;refine⟨_,rfl,pl,rfl,⟨_,SqL.of (SX _ _ hpl)⟩,λD hD=>Cz (K:=K) (a:=pl) (xs:=nV P) (λj σ ys H6=>∃(u:Option V),σ=[u,some (.ref d8),some (.int (p:Int))]/\ys=nV ((P.take j).filter λq=>joB N S p q)/\Same HX H6/\H6 D=some (.lst ys)) ⟨none,rfl,rfl,Ac hD,Ab⟩ (λj σ ys H7 _ ⟨_,_,_,e,f⟩=>⟨SqL.of (e _ _ (SX _ _ hpl)),f⟩) ?_ ?_⟩
   ·rintro j x σ ys H6 hx ⟨u,rfl,rfl,s6,D6⟩;obtain⟨q,eq,rfl⟩:=Dt hx;have hq:=mem_of_getElem? eq;have fl:((P.take j).filter λq=>joB N S p q).length<=6:=le_trans (Qd1 _ _) (by rw[Qb0];omega);refine⟨_,rfl,_,rfl,_,rfl,small (by simp),λt1 h1=>⟨d8,_,rfl,TX.get hp hq (s6.trans (Ac h1)) Ab,_,rfl,?_⟩⟩;have s7:=Ac (o:= .tup [.int (p:Int),.int (q:Int)]) h1;generalize upd H6 t1 (.tup [.int (p:Int),.int (q:Int)])=H7 at s7 ⊢;have D7:=s7 _ _ D6;refine B7 (λg=> ?_) λg=> ?_
    ·refine⟨_,rfl,D7,Ap (by unfold nV;rw[If,If];omega),_,rfl,?_,A8 (s6.trans s7) hD,Ab⟩;rw[Qb2,eq,filter_append];unfold nV;simp[g]
    ·refine⟨_,rfl,?_,s6.trans s7,D7⟩;rw[Qb2,eq,filter_append];simp[g]
   rintro σ ys H6 ⟨u,rfl,rfl,s6,D6⟩;rw[show (nV P).length=P.length by unfold nV;simp,Qb8] at D6;change H6 D=some (.lst (nV (grp P (joB N S) p))) at D6;have Gl:(grp P (joB N S) p).length<=6:=le_trans (Qd1 _ _) P6;refine⟨D,_,rfl,.inl ⟨SqL.of D6,λt ht=> ?_⟩⟩;have s7:=s6.trans (Ac (o:= .tup (nV (grp P (joB N S) p))) ht);have e7:=Ab (H:=H6) (a:=t) (o:= .tup (nV (grp P (joB N S) p)));generalize upd H6 t (.tup (nV (grp P (joB N S) p)))=H7 at s7 e7 ⊢;have g7:=s7 _ _ gX;have kf:=GX.few;dsimp only[B6];refine⟨_,rfl,_,rfl,g,_,rfl,DPut.t (k:=Jw (grp P (joB N S) p)) g7 (by rw[keyG_V];exact e7) (lt_of_le_of_lt (le_trans kf P6) (by rw[Qb3];decide)),?_⟩;have s8:=A8 (o:= .dT (Bw kvs (Jw (grp P (joB N S) p)) (.bl true))) (sX.trans s7) hg;have e8:upd H7 g (.dT (Bw kvs (Jw (grp P (joB N S) p)) (.bl true))) t=some (.tup (nV (grp P (joB N S) p))):=by rw[Ai (λz=>by rw[z,g7] at e7;cases e7)];exact e7
   have g8:=Ab (H:=H7) (a:=g) (o:= .dT (Bw kvs (Jw (grp P (joB N S) p)) (.bl true)));generalize upd H7 g (.dT (Bw kvs (Jw (grp P (joB N S) p)) (.bl true)))=H8 at s8 e8 g8 ⊢;clear s7 e7 g7 s6 D6 ht hD TX SX sX gX;have S8:=S15.trans s8;have Z8:=λ(p:Nat) (hp:p∈P)=>Ij (f:=λp=>(Az N S p).length) nd (s8 _ _ e15) hp;have nl:(nV (grp P (joB N S) p)).length=(grp P (joB N S) p).length:=by unfold nV;rw[If,If]
   have G1:=GX.put ep (.bl true);refine⟨_,rfl,_,rfl,d9,_,rfl,Z8 p hp,_,rfl,t,_,rfl,.inr (SqT.of e8),_,_,rfl,rfl,_,rfl,B7 (λz=> ?_) λ_=> ?_⟩
   ·have:=Qc2 z;have:=Z2 inN hN nd (hP p hp);omega
   refine⟨_,rfl,t,rfl,⟨_,SqT.of e8⟩,λD2 hD2=>Ia (K:=K) (a:=t) (xs:=nV (grp P (joB N S) p)) (λj σ ys H9=>∃(u:Option V),σ=[u,some (.ref d9)]/\ys=(((grp P (joB N S) p).take j).map λq=>((Az N S q).length:Int)).map V.int/\Same H8 H9/\H9 D2=some (.lst ys)) ⟨none,rfl,rfl,Ac hD2,Ab⟩ (λj σ ys H7 _ ⟨_,_,_,e,f⟩=>⟨SqT.of (e _ _ e8),f⟩) ?_ ?_⟩
   ·rintro j x σ ys H9 hx ⟨u,rfl,rfl,s9,D9⟩;obtain⟨q,eq,rfl⟩:=Dt hx;have hq:=(grp_mem.mp (mem_of_getElem? eq)).1;refine⟨_,rfl,_,rfl,d9,_,rfl,Ij (f:=λp=>(Az N S p).length) nd (s9 _ _ (s8 _ _ e15)) hq,D9,Ap (by rw[If,If,Qb0];omega),_,rfl,?_,A8 s9 hD2,Ab⟩;rw[Qb2,eq,map_append,map_append];rfl
   rintro σ ys H9 ⟨u,rfl,rfl,s9,D9⟩;rw[nl,Qb8] at D9;refine⟨D2,_,rfl,D9,by rw[If];omega,λms ndm mm=>⟨rfl,_,rfl,B7 (λz=> ?_) λ_=> ?_⟩⟩
   ·have one:=one_size (c:=((Az N S p).length:Int)) (λz=>by
     have pm:p∈grp P (joB N S) p:=grp_mem.mpr ⟨hp,hE.self p hp⟩;rw[List.map_eq_nil_iff] at z;rw[z] at pm;cases pm) (λx hx=>by
     obtain⟨q,hq,rfl⟩:=mem_map.mp hx;rw[grp_size inN hN hP hp hq]) ndm mm
    rw[one] at z;exact absurd z (by decide)
   have S9:=S8.trans s9;have s19:=s8.trans s9;have e9:=s9 _ _ e8;have g9:=s9 _ _ g8;obtain⟨tp,rsd,hh,htp,hdd⟩:=hH;dsimp only[B6];refine⟨_,rfl,pl,_,rfl,.inl (SqL.of (S9 _ _ hpl)),_,rfl,h,_,0,_,rfl,rfl,SqT.of (S9 _ _ hh),Am (j:=0) rfl,rfl,_,rfl,B7 (λz=> ?_) λ_=>C4 ⟨_,_,_,rfl,s19,g9,G1⟩⟩;refine⟨_,rfl,_,rfl,d9,_,rfl,Ij (f:=λp=>(Az N S p).length) nd (s19 _ _ e15) hp,_,rfl,t,_,rfl,.inr (SqT.of e9),rfl,_,rfl,B7 (λw=> ?_) λ_=>⟨_,_,_,rfl,s19,g9,G1⟩⟩;have lN:P.length=N:=by
    have z:=Qc2 z;injection z with z;have:(nV P).length=P.length:=by unfold nV;simp
    omega
   rw[nl,grp_eq inN hN nd (all_of nd hP lN) (hP p hp)] at w;exact absurd w (by simp)
  ·rintro σ HX ⟨u5,u11,kvs,rfl,sX,gX,GX⟩;rw[show (nV P).length=P.length by unfold nV;simp] at GX;have SX:=S15.trans sX;have aX:=sX _ _ eav15;obtain⟨tp,rsd,hh,htp,hdd⟩:=hH;have lN:(nV P).length=P.length:=by unfold nV;simp
   have le:=GX.le inN hN hP;refine⟨_,rfl,_,rfl,av,_,_,_,rfl,rfl,SqT.of aX,(by rw[<-append_assoc];exact M3 _ _),_,rfl,g,_,rfl,gX,rfl,_,rfl,B7 (λ_=>k _ SX) λne=> ?_⟩;refine⟨_,rfl,pl,_,rfl,.inl (SqL.of (SX _ _ hpl)),_,rfl,h,_,0,_,rfl,rfl,SqT.of (SX _ _ hh),Am (j:=0) rfl,_,_,rfl,rfl,_,rfl,B7 (λ_=> ?_) λz=> ?_⟩
   ·refine⟨_,rfl,_,rfl,av,_,_,_,rfl,rfl,SqT.of aX,(by rw[<-append_assoc];exact M3 _ _),_,rfl,g,_,rfl,gX,_,_,rfl,rfl,?_⟩;rw[decide_eq_true (by omega)];exact k _ SX
   ·refine absurd ?_ ne;have lP:P.length<=N:=by
     have:=Nodup.length_le_of_subset nd (l₂:=List.range N) λu hu=>mem_range.mpr (hP u hu);simpa using this
    have lN2:P.length=N:=by
     have z:=of_decide_eq_false (Bool.eq_false_iff.mpr z);omega
    have ge:=GX.ge inN hN hP (all_of nd hP lN2);exact decide_eq_true (by rw[Nat.le_antisymm ge le])
def cmF(n:Str)(ds:List Dd):List T4:=ds.filterMap λd=>match d with
 | .come _ t=>if t.1=n then some t else none
 | .go _ _=>none
theorem Kt(n:Str)(ds:List Dd)(d:Dd):cmF n (ds++[d])=cmF n ds++(match d with| .come _ t=>if t.1=n then [t] else []| .go _ _=>[]):=by
 unfold cmF;rw[List.filterMap_append];cases d with
 |come m t=>by_cases g:t.1=n<;> simp[g]
 |go m x=>simp
theorem Yk:∀(m:Nat) (ds:List Dd),ds.length=m->∀n:Str,n∈(thr ds).map (·.1)->∃t,(cmF n ds).getLast? =some t/\t∈thr ds/\t.1=n:=by
 intro m
 induction m with
 |zero=>
  intro ds h n hn;have:ds=[]:=List.length_eq_zero_iff.mp h;subst this;simp[thr] at hn
 |succ m ih=>
  intro ds h n hn;obtain⟨es,d,rfl⟩:∃es d,ds=es++[d]:=by
   rcases List.eq_nil_or_concat ds with h'|⟨L,b,h'⟩
   ·rw[h'] at h;cases h
   ·exact⟨L,b,by rw[h'];simp⟩
  have l:es.length=m:=by rw[Qa3] at h;simpa using h
  rw[C9] at hn ⊢;rw[Kt];cases d with
  |come m' t=>
   dsimp only;by_cases g:t.1=n
   ·rw[Qa2 g];exact⟨t,by simp,mem_append_right _ (mem_singleton.mpr rfl),g⟩
   ·rw[Qa1 g,Qc9];have hn:n∈(thr es).map (·.1):=by
     have hn:n∈(thr es++[t]).map (·.1):=hn;rw[map_append] at hn;rcases mem_append.mp hn with q|q
     ·exact q
     ·exact absurd (mem_singleton.mp q).symm g
    obtain⟨u,a,b,c⟩:=ih es l n hn;exact⟨u,a,mem_append_left _ b,c⟩
  |go m' x=>
   dsimp only;rw[Qc9];have hn:n∈((thr es).filter λt=>decide (t.1≠x)).map (·.1):=hn;obtain⟨u0,hu,e0⟩:=mem_map.mp hn;obtain⟨h1,h2⟩:=mem_filter.mp hu;have ne:n≠x:=by rw[<-e0];exact Qc2 h2
   obtain⟨u,a,b,c⟩:=ih es l n (mem_map.mpr ⟨u0,h1,e0⟩);exact⟨u,a,mem_filter.mpr ⟨b,decide_eq_true (by rw[c];exact ne)⟩,c⟩
def TieAt(ds:List Dd)(k:Nat)(t:T4):Prop:=(∃m,ds[k]? =some (.come m t))\/∃m n,ds[k]? =some (.go m n)/\(cmF n (ds.take k)).getLast? =some t
theorem step_of{N:Nat}{ds:List Dd}(hR:Db N ds){k:Nat}(hk:k<ds.length):∃(t:T4) (a b:Nat),TieAt ds k t/\t.2.1<N/\t.2.2.1<N/\a<=ds.length/\b<=ds.length/\((∃m,ds[k]? =some (.come m t))/\a=k/\b=k+1\/(∃m n,ds[k]? =some (.go m n))/\a=k+1/\b=k)/\∀u,u∈thr (ds.take b)↔u∈thr (ds.take a)++[t]:=by
 have e:=Cc hk;have ok:=hR.ok k _ e;have tk:=Bu e;have T:=Lp hR k (by omega);generalize ds[k]=d at e ok tk;cases d with
 |come m t=>
  refine⟨t,k,k+1,.inl ⟨m,e⟩,ok.2.1,ok.2.2.1,by omega,by omega,.inl ⟨⟨m,e⟩,rfl,rfl⟩,λu=> ?_⟩;rw[tk,C9];exact Iff.rfl
 |go m n=>
  obtain⟨t,h1,h2,h3⟩:=Yk _ (ds.take k) rfl n ok;have tok:=T.ok t h2;refine⟨t,k+1,k,.inr ⟨m,n,e,h1⟩,tok.1,tok.2.1,by omega,by omega,.inr ⟨⟨m,n,e⟩,rfl,rfl⟩,λu=> ?_⟩;rw[tk,C9];show u∈thr (ds.take k)↔u∈(thr (ds.take k)).filter (λt=>decide (t.1≠n))++[t];rw[mem_append,mem_filter,Qa4,mem_singleton];constructor
  ·intro hu;by_cases g:u.1=n
   ·right;obtain⟨i,hi,rfl⟩:=getElem_of_mem hu;obtain⟨j,hj,rfl⟩:=getElem_of_mem h2;have:i=j:=by
     refine(getElem_inj (h₀:=by rw[If];exact hi) (h₁:=by rw[If];exact hj) T.nd).mp ?_;rw[getElem_map,getElem_map,g,h3]
    subst this;rfl
   ·exact .inl ⟨hu,g⟩
  ·rintro(⟨hu,_⟩|rfl)
   ·exact hu
   ·exact h2
section
variable{N:Nat}{A B:List T4}{t:T4}
theorem Tm(h:∀u,u∈B↔u∈A++[t]){p q:Nat}:Reach B p q↔Reach (A++[t]) p q:=⟨λr=>r.mono λu hu=>(h u).mp hu,λr=>r.mono λu hu=>(h u).mpr hu⟩
theorem Sf(hB:InN N B)(hN:N<=60)(h:∀u,u∈B↔u∈A++[t])(h1:t.2.1<N)(h2:t.2.2.1<N):joB N B t.2.1 t.2.2.1=true:=
 (Du hB hN h1).mpr ⟨h2,.step (Gf ((h t).mpr (mem_append_right _ (mem_singleton.mpr rfl))))⟩
theorem Uu(hA:InN N A)(hB:InN N B)(hN:N<=60)(h:∀u,u∈B↔u∈A++[t])(h1:t.2.1<N)(h2:t.2.2.1<N):((lsF N B).length:Int)=(lsF N A).length - (if joB N A t.2.1 t.2.2.1=true then 0 else 1):=by
 rw[Uq hB hN,Uq hA hN,Jg (λa b _ _=>Tm h)];by_cases g:joB N A t.2.1 t.2.2.1=true
 ·rw[Qa2 g,R4 ((Du hA hN h1).mp g).2];omega
 ·rw[Qa1 g];have:=Ru h1 h2 (P:=A) λr=>g ((Du hA hN h1).mpr ⟨h2,r⟩);omega
theorem Ur(h:∀u,u∈B↔u∈A++[t]):(Ht A|| !Ht B)=true:=by
 by_cases g:Two B
 ·rw[K5 (g.mono λu hu=>(h u).mpr (mem_append_left _ hu))];rfl
 ·rw[Me g];simp
end
def O5:Sp:=λvs H Q _=>∃(tp:Addr) (rs:List Addr) (ds:List Dd) (k:Nat) (t:T4),vs=[.ref tp,.int (k:Int)]/\H tp=some (.tup (rs.map V.ref))/\DdsAt H rs ds/\ds.length<=60/\TieAt ds k t/\∀r H',Same H H'->H' r=some (.tup [.int (t.2.1:Int),.int (t.2.2.1:Int)])->Q (.ref r) H'
def Tp:Sp:=λvs H Q _=>∃(y:Int) (h:Addr) (N:Nat) (ds:List Dd) (k:Nat),vs=[.int y,.ref h,.int (k:Int)]/\HistAt H h N ds/\Db N ds/\1<=N/\N<=24/\k<ds.length/\∀H',Same H H'->Q (.bl true) H'
theorem scTieOf:Av ["_law_deeds_here","_law_k"] ["_law_deeds_here","_law_k"] (Ah Pk):=⟨rfl,rfl,rfl,by decide+kernel,rfl,by decide+kernel,by decide+kernel⟩
theorem Zh{f:Addr}{fd:FuncData}(F:Fun K "_law_tie_of" "_law_tie_of" Pk f fd)(T:Txt K mg C I):
  FnOk P w K mg base CX0 1 f fd ["_law_deeds_here","_law_k"] O5:=by
 refine F.ok scTieOf (λvs H Q E h=> ?_) (λcdv A outer s H vs Q E hr h=> ?_)
 ·obtain⟨_,_,_,_,_,rfl,_⟩:=h;rfl
 ·obtain⟨tp,rs,ds,kk,t,rfl,htp,hdd,d60,hT,k⟩:=h;refine⟨_,Ae (Br (Ax Bq (Ao At (Ao At (pv 0) (pv 1) (λ_ _=>rfl)) Af (λ_ _=>rfl)) Bs (Aw _)) (Ag (As (Ch El (Ao At (pv 0) (pv 1) (λ_ _=>rfl)) (Bt Af) (Bt Af)))) Bd)
   (Ag (As (Ao Bc (Cg (T:=["_law_deed"]) (F:=["_law_deeds_here","_law_k"]) (js:=[0,1]) (cs (osc:=Ah Pk)) rfl (Ds (Ch (r:=Lo K) El (pv 0) Dw (Bt (pv 1)))) (λ_ _ _ _ _=>Aj (i:=0) (show (["_law_deed","_law_deeds_here","_law_k"]:List Str).Nodup by decide+kernel) rfl (Or.inl rfl)) (λ_ _ _ _ _=>Ep (PW.pt (Hd (Ax Bq (Ao (r:=Hr K) At (pv 0) Af (λ_ _=>rfl)) Bs (Aw _)) (Fm (Ax Bq (Ao (r:=Hr K) At (pv 0) Af (λ_ _=>rfl)) (Ao (r:=Hr K) At (Ao (r:=Hr K) At (pv 1) (pv 2) (λ_ _=>rfl)) Af (λ_ _=>rfl)) (Aw _)))))) (λ_ _ _ _ _=>Ch (r:=Lo K) El (pv 0) (Bt Af) (Bt Af))) (Mj Hh Af) (λ_ _=>rfl)))),?_⟩
  rcases hT with⟨m,e⟩|⟨m,n,e,hl⟩
  ·have kl:=(List.getElem?_eq_some_iff.mp e).1;have er:=Cc (l:=rs) (i:=kk) (by rw[hdd.1];exact kl);have hr':=hdd.2 kk _ _ er e;refine⟨_,rfl,_,rfl,tp,_,(kk:Int),_,rfl,rfl,SqT.of htp,Am (j:=kk) (by rw[getElem?_map,er];rfl),_,_,0,_,rfl,rfl,SqT.of hr',Am (j:=0) rfl,rfl,_,rfl,B7 (λ_=> ?_) λg=>absurd (by decide+kernel) g⟩;refine⟨_,rfl,_,rfl,tp,_,(kk:Int),_,rfl,rfl,SqT.of htp,Am (j:=kk) (by rw[getElem?_map,er];rfl),_,rfl,_,rfl,Fq hr' λr H1 s1 e1=> ?_⟩;exact k r H1 s1 e1
  ·have kl:=(List.getElem?_eq_some_iff.mp e).1;have er:=Cc (l:=rs) (i:=kk) (by rw[hdd.1];exact kl);have hr':=hdd.2 kk _ _ er e;refine⟨_,rfl,_,rfl,tp,_,(kk:Int),_,rfl,rfl,SqT.of htp,Am (j:=kk) (by rw[getElem?_map,er];rfl),_,_,0,_,rfl,rfl,SqT.of hr',Am (j:=0) rfl,rfl,_,rfl,B7 (λg=>absurd g (by decide+kernel)) λ_=> ?_⟩;dsimp only[B6];refine⟨_,rfl,_,rfl,_,rfl,Fq htp λt1 H1 s1 e1=> ?_⟩;rw[Jz (by rw[If,hdd.1];omega),<-map_take] at e1;have dt:=(hdd.take kk).mono λr xs e=>s1 _ _ e;have tl:(ds.take kk).length<=60:=by rw[Qb0];omega
   refine⟨t1,rfl,⟨_,SqT.of e1⟩,λD hD=>Ia (K:=K) (a:=t1) (xs:=(rs.take kk).map V.ref) (λj σ ys H6=>∃(u:Option V) (qs:List Addr),σ=[u,some (.ref tp),some (.int (kk:Int))]/\ys=qs.map V.ref/\Same H1 H6/\H6 D=some (.lst ys)/\PqAt H6 qs ((cmF n ((ds.take kk).take j)).map λt=>(t.2.1,t.2.2.1))) ⟨none,[],rfl,rfl,Ac hD,Ab,⟨rfl,λi r k e=>by simp at e⟩⟩ (λj σ ys H6 _ ⟨_,_,_,_,e,f,_⟩=>⟨SqT.of (e _ _ e1),f⟩) ?_ ?_⟩
   ·rintro j x σ ys H6 hx ⟨u,qs,rfl,rfl,s6,D6,A6⟩;obtain⟨r,er1,rfl⟩:=map_some hx;obtain⟨d,hd,er2⟩:=dt.get er1;have er6:=s6 _ _ er2;have ql:qs.length<=60:=by
     rw[A6.1,If];exact le_trans (List.length_filterMap_le ..) (le_trans (List.length_take_le' ..) tl)
    have tk:=Bu hd;have tp6:=s6 _ _ (s1 _ _ htp);have hk6:=s6 _ _ (s1 _ _ hr');cases d with
    |go m' x=>
     refine⟨_,rfl,r,_,0,_,rfl,rfl,SqT.of er6,Am (j:=0) rfl,rfl,_,rfl,B7 (λg=>absurd g (by decide+kernel)) λ_=>C4 ?_⟩;refine⟨_,qs,rfl,rfl,s6,D6,?_⟩;rw[tk,Kt,Qc9];exact A6
    |come m' t'=>
     refine⟨_,rfl,r,_,0,_,rfl,rfl,SqT.of er6,Am (j:=0) rfl,rfl,_,rfl,B7 (λ_=> ?_) λg=>absurd (by decide+kernel) g⟩;refine⟨_,rfl,r,_,2,_,rfl,rfl,SqT.of er6,Am (j:=2) rfl,_,rfl,_,rfl,tp,_,(kk:Int),_,rfl,rfl,SqT.of tp6,Am (j:=kk) (by rw[getElem?_map,er];rfl),_,_,2,_,rfl,rfl,SqT.of hk6,Am (j:=2) rfl,rfl,_,rfl,B7 (λg=> ?_) λg=> ?_⟩
     ·have g:t'.1=n:=by have:=Qc2 g;injection this
      refine⟨_,rfl,_,rfl,_,rfl,Fq er6 λr2 H7 s7 e7=> ?_⟩;have D7:=s7 _ _ D6;refine⟨D7,Ap (by rw[If];omega),_,qs++[r2],rfl,by rw[map_append];rfl,A8 (s6.trans s7) hD,Ab,?_⟩;rw[tk,Kt];dsimp only;rw[Qa2 g,map_append];refine(A6.mono λb xs e=> ?_).app (.one ?_)
      ·rw[Ai (Ei (s7 _ _ e) D7)];exact s7 _ _ e
      ·rw[Ai (Ei e7 D7)];exact e7
     ·have g:¬t'.1=n:=λz=>g (decide_eq_true (by rw[z]));refine⟨_,qs,rfl,rfl,s6,D6,?_⟩;rw[tk,Kt];dsimp only;rw[Qa1 g,Qc9];exact A6
   rintro σ ys H6 ⟨u,qs,rfl,rfl,s6,D6,A6⟩;rw[If,show (rs.take kk).length=(ds.take kk).length from dt.1,Qb8] at A6;obtain⟨ys,ey⟩:=List.getLast?_eq_some_iff.mp hl;rw[ey,map_append] at A6;obtain⟨ps,r,rfl⟩:∃ps r,qs=ps++[r]:=by
    rcases List.eq_nil_or_concat qs with h'|⟨L,b,h'⟩
    ·have:=A6.1;rw[h'] at this;simp at this
    ·exact⟨L,b,by rw[h'];simp⟩
   have pl:ps.length=(ys.map λt:T4=>(t.2.1,t.2.2.1)).length:=by
    have:=A6.1;rw[Qa3,Qa3] at this;simpa using this
   refine⟨_,rfl,D,_,_,_,rfl,rfl,SqL.of D6,(by rw[map_append];exact M3 _ _),?_⟩;exact k r H6 (s1.trans s6) (A6.2 ps.length r _ (by rw[getElem?_append_right (le_refl _),Nat.sub_self];rfl) (by rw[getElem?_append_right (by rw[pl];exact le_refl _),pl,Nat.sub_self];rfl))
theorem scStep:Av ["_law_way","_law_history","_law_k","_law_deeds_here","_law_ahead","_law_behind","_law_one","_law_other","_law_asks_here","_law_n","_law_less","_law_parts","_law_sides","_law_more","_law_parts_then","_law_sides_then"] ["_law_way","_law_history","_law_k"] (Ah sStep):=⟨rfl,rfl,rfl,by decide+kernel,rfl,by decide+kernel,by decide+kernel⟩
theorem ok_Step{f:Addr}{fd:FuncData}(F:Fun K "_law_step_right" "_law_step_right" sStep f fd)(T:Txt K mg C I)(GTieOf:Cl P w K mg base 15 "_law_tie_of" ["_law_deeds_here","_law_k"] O5)(GAnswers:Cl P w K mg base 15 "_law_answers" ["_law_way","_law_history","_law_asks_here"] Gu):
  FnOk P w K mg base CX0 16 f fd ["_law_way","_law_history","_law_k"] Tp:=by
 refine F.ok scStep (λvs H Q E h=> ?_) (λcdv A outer s H vs Q E hr h=> ?_)
 ·obtain⟨_,_,_,_,_,rfl,_⟩:=h;rfl
 ·obtain⟨y,h,N,ds,kk,rfl,hH,hR,N1,N24,hk,k⟩:=h;refine⟨_,Ae (Aq (i:=3) scStep.nd rfl (Or.inl rfl) (Ao At (pv 1) Af (λ_ _=>rfl)))
   (Ae (Da (Ao Bc (Bh (Aa (A1 (Aa (pv 2) (Aa (Au Bi (pv 2) Af) Ad))) (Aa (A1 (Aa (Au Bi (pv 2) Af) (Aa (pv 2) Ad))) Ad))) (Bb Gv (by rfl) T.int (by decide+kernel) (Aa (Cr Bq (Ao At (Ao At (pv 3) (pv 2) (λ_ _=>rfl)) Af (λ_ _=>rfl)) Bs (Aw _)) Ad)) (λ_ _=>rfl)) (C8 rfl (An (Aj (i:=4) scStep.nd rfl (Or.inl rfl)) (An (Aj (i:=5) scStep.nd rfl (Or.inl rfl)) Bk))))
   (Ae (Da (A7 GTieOf hr (Aa (pv 3) (Aa (pv 2) Ad))) (C8 rfl (An (Aj (i:=6) scStep.nd rfl (Or.inl rfl)) (An (Aj (i:=7) scStep.nd rfl (Or.inl rfl)) Bk))))
   (Ae (Aq (i:=8) scStep.nd rfl (Or.inl rfl) (Bh Ad))
   (Ae (Cb PassesOwn.never rfl (Ds (A1 (Aa (pv 4) (Aa (pv 5) Ad)))) (Aj (i:=9) scStep.nd rfl (Or.inl rfl)) (Ag (Co (De Qc3 PySem.F.slot_list_extend PySem.F.type_list_extend Nz (pv 8) (Aa (Bh (Aa (A1 (Aa Bs (Aa (pv 9) (Aa (pv 6) (Aa (pv 7) Ad))))) (Aa (A1 (Aa Bs (Aa (pv 9) Ad))) (Aa (A1 (Aa Bs (Aa (pv 9) Ad))) Ad)))) Ad)))))
   (Ae (Da (A7 GAnswers hr (Aa (pv 0) (Aa (pv 1) (Aa (Bb Ba (by rfl) T.tuple (by decide+kernel) (Aa (pv 8) Ad)) Ad)))) (C8 rfl (An (Aj (i:=10) scStep.nd rfl (Or.inl rfl)) (An (Aj (i:=11) scStep.nd rfl (Or.inl rfl)) (An (Aj (i:=12) scStep.nd rfl (Or.inl rfl)) (An (Aj (i:=13) scStep.nd rfl (Or.inl rfl)) (An (Aj (i:=14) scStep.nd rfl (Or.inl rfl)) (An (Aj (i:=15) scStep.nd rfl (Or.inl rfl)) Bk))))))))
   (Ae (Br (PW.pt (Rw (Hm (Gg (pv 13))) (Lw (Ax Qu (pv 14) (Au Fv (pv 11) (Bb Gv (by rfl) T.int (by decide+kernel) (Aa (Tf (pv 10)) Ad))) (Aw _))))) (Ag (As Gb)) Bd)
   (Ag (As (Z1 (pv 12) (Hl (Tf (pv 15)))))))))))),?_⟩
  obtain⟨t,a,b,hT,t1,t2,ha,hb,hab,hm⟩:=step_of hR hk;obtain⟨tp,rs,hh,htp,hdd⟩:=id hH;have er:=Cc (l:=rs) (i:=kk) (by rw[hdd.1];exact hk);obtain⟨d,word,ed,hw,sel⟩:∃(d:Dd) (word:Str),ds[kk]? =some d/\d.vs[0]? =some (.str word)/\∀(H:Hp) (p q:Addr),H p=some (.tup [.int (kk:Int),.int ((kk:Int)+1)])->H q=some (.tup [.int ((kk:Int)+1),.int (kk:Int)])->∃x,H x=some (.tup [.int (a:Int),.int (b:Int)])/\atI [V.ref p,V.ref q] (if decide (V.str word=V.str (Str.ofString "go"))=true then 1 else 0)=some (.ref x):=by
   rcases hab with⟨⟨m,e⟩,rfl,rfl⟩|⟨⟨m,n,e⟩,rfl,rfl⟩
   ·exact⟨_,Str.ofString "come",e,rfl,λH p q h1 _=>⟨p,h1,by rw[show decide (V.str (Str.ofString "come")=V.str (Str.ofString "go"))=false by decide+kernel];rfl⟩⟩
   ·exact⟨_,Str.ofString "go",e,rfl,λH p q _ h2=>⟨q,h2,by rw[decide_eq_true rfl];rfl⟩⟩
  have hd:=hdd.2 kk _ _ er ed;refine⟨_,rfl,h,_,1,_,rfl,rfl,SqT.of hh,Am (j:=1) rfl,?_⟩;refine⟨_,rfl,_,rfl,_,_,rfl,rfl,small (by simp),λq1 h1=> ?_⟩;have s1:=Ac (o:= .tup [.int (kk:Int),.int ((kk:Int)+1)]) h1;have e1:=Ab (H:=H) (a:=q1) (o:= .tup [.int (kk:Int),.int ((kk:Int)+1)]);generalize upd H q1 (.tup [.int (kk:Int),.int ((kk:Int)+1)])=H1 at s1 e1 ⊢;refine⟨_,rfl,_,_,rfl,rfl,_,rfl,small (by simp),λq2 h2=> ?_⟩;have s2:=Ac (o:= .tup [.int ((kk:Int)+1),.int (kk:Int)]) h2;have e2:=Ab (H:=H1) (a:=q2) (o:= .tup [.int ((kk:Int)+1),.int (kk:Int)]);generalize upd H1 q2 (.tup [.int ((kk:Int)+1),.int (kk:Int)])=H2 at s2 e2 ⊢;refine⟨small (by simp),λl hl=> ?_⟩;have s3:=Ac (o:= .lst [.ref q1,.ref q2]) hl;have e3:=Ab (H:=H2) (a:=l) (o:= .lst [.ref q1,.ref q2]);generalize upd H2 l (.lst [.ref q1,.ref q2])=H3 at s3 e3 ⊢;have S3:=(s1.trans s2).trans s3;obtain⟨x,ex,ax⟩:=sel H3 q1 q2 (s3 _ _ (s2 _ _ e1)) (s3 _ _ e2);refine⟨_,rfl,_,rfl,tp,_,(kk:Int),_,rfl,rfl,SqT.of (S3 _ _ htp),Am (j:=kk) (by rw[getElem?_map,er];rfl),_,_,0,_,rfl,rfl,SqT.of (S3 _ _ hd),Am (j:=0) hw,rfl,.inr ⟨_,rfl,?_⟩⟩;refine⟨l,_,_,_,rfl,rfl,SqL.of e3,ax,?_⟩;refine⟨x,_,rfl,SqT.of ex,rfl,_,_,rfl,_,_,rfl,rfl,?_⟩;clear e1 e2 e3 s1 s2 s3 h1 h2 hl ax ex sel;refine⟨_,rfl,_,rfl,tp,rs,ds,kk,t,rfl,S3 _ _ htp,hdd.mono λr xs e=>S3 _ _ e,hR.len,hT,λr H4 s4 er4=> ?_⟩;refine⟨r,_,rfl,SqT.of er4,rfl,_,_,rfl,_,_,rfl,rfl,?_⟩;have S4:=S3.trans s4;clear s4 er4;refine⟨small (by simp),λl8 hl8=> ?_⟩;have s5:=Ac (o:= .lst []) hl8;have e5:=Ab (H:=H4) (a:=l8) (o:= .lst []);generalize upd H4 l8 (.lst [])=H5 at s5 e5 ⊢;refine⟨_,rfl,_,rfl,small (by simp),λtt htt=> ?_⟩;have s6:=s5.trans (Ac (o:= .tup [.int (a:Int),.int (b:Int)]) htt);have e6:=Ac (o:= .tup [.int (a:Int),.int (b:Int)]) htt _ _ e5;have t6:=Ab (H:=H5) (a:=tt) (o:= .tup [.int (a:Int),.int (b:Int)]);generalize upd H5 tt (.tup [.int (a:Int),.int (b:Int)])=H6 at s6 e6 t6 ⊢;refine⟨tt,rfl,⟨_,SqT.of t6⟩,Jd (K:=K) (a:=tt) (xs:=nV [a,b]) (λi σ HX=>∃(u9:Option V) (as:List Addr),σ=[some (.int y),some (.ref h),some (.int (kk:Int)),some (.ref tp),some (.int (a:Int)),some (.int (b:Int)),some (.int (t.2.1:Int)),some (.int (t.2.2.1:Int)),some (.ref l8),u9,none,none,none,none,none,none]/\Same H4 HX/\HX tt=some (.tup (nV [a,b]))/\HX l8=some (.lst (as.map V.ref))/\AksAt HX as (([a,b].take i).flatMap λm=>[Ak.jo m t.2.1 t.2.2.1,Ak.pa m,Ak.ev m])) ⟨_,[],rfl,s6,t6,e6,⟨rfl,λi r k e=>by simp at e⟩⟩ (λi σ HX _ ⟨_,_,_,_,s,_⟩=>SqT.of s) ?_ ?_⟩
  ·rintro i x σ HX hx ⟨u9,as,rfl,sX,tX,lX,AX⟩;obtain⟨m,em,rfl⟩:=Dt hx;have al:as.length<=6:=by
    rw[AX.1,List.length_flatMap];have:i<2:=(List.getElem?_eq_some_iff.mp em).1
    match i,this with
    |0,_=>simp
    |1,_=>simp
   refine⟨_,rfl,.inl ⟨rfl,_,SqL.of lX⟩,_,rfl,_,rfl,_,rfl,small (by simp),λp1 hp1=> ?_⟩;have z1:=Ac (o:= .tup [V.str (Str.ofString "joined"),.int (m:Int),.int (t.2.1:Int),.int (t.2.2.1:Int)]) hp1;have f1:=Ab (H:=HX) (a:=p1) (o:= .tup [V.str (Str.ofString "joined"),.int (m:Int),.int (t.2.1:Int),.int (t.2.2.1:Int)]);generalize upd HX p1 (.tup [V.str (Str.ofString "joined"),.int (m:Int),.int (t.2.1:Int),.int (t.2.2.1:Int)])=Y1 at z1 f1 ⊢;refine⟨_,rfl,small (by simp),λp2 hp2=> ?_⟩;have z2:=Ac (o:= .tup [V.str (Str.ofString "parts"),.int (m:Int)]) hp2;have f2:=Ab (H:=Y1) (a:=p2) (o:= .tup [V.str (Str.ofString "parts"),.int (m:Int)]);generalize upd Y1 p2 (.tup [V.str (Str.ofString "parts"),.int (m:Int)])=Y2 at z2 f2 ⊢;refine⟨_,rfl,small (by simp),λp3 hp3=> ?_⟩;have z3:=Ac (o:= .tup [V.str (Str.ofString "even"),.int (m:Int)]) hp3;have f3:=Ab (H:=Y2) (a:=p3) (o:= .tup [V.str (Str.ofString "even"),.int (m:Int)]);generalize upd Y2 p3 (.tup [V.str (Str.ofString "even"),.int (m:Int)])=Y3 at z3 f3 ⊢;refine⟨small (by simp),λl3 hl3=> ?_⟩;have z4:=Ac (o:= .lst [.ref p1,.ref p2,.ref p3]) hl3;have f4:=Ab (H:=Y3) (a:=l3) (o:= .lst [.ref p1,.ref p2,.ref p3]);generalize upd Y3 l3 (.lst [.ref p1,.ref p2,.ref p3])=Y4 at z4 f4 ⊢;have Z:=((z1.trans z2).trans z3).trans z4;have lZ:=Z _ _ lX;have g1:=z4 _ _ (z3 _ _ (z2 _ _ f1));have g2:=z4 _ _ (z3 _ _ f2);have g3:=z4 _ _ f3;refine⟨l8,l3,_,_,rfl,rfl,lZ,f4,small (by rw[If];show _+3<=_;omega),?_⟩;have kp:∀(r:Addr) (zs:List V) (o:HO),Y4 r=some (.tup zs)->upd Y4 l8 o r=some (.tup zs):=λr zs o e=>by rw[Ai (Ei e lZ)];exact e
   refine⟨_,as++[p1,p2,p3],rfl,A8 (sX.trans Z) hl8,kp _ _ _ (Z _ _ tX),by rw[Ab,map_append];rfl,?_⟩;rw[Qb2,em,flatMap_append];refine Vp (AX.mono λr xs e=>kp _ _ _ (Z _ _ e)) ⟨rfl,λi r k e1 e2=> ?_⟩
   match i,e1,e2 with
   |0,e1,e2=>cases e1;cases e2;exact kp _ _ _ g1
   |1,e1,e2=>cases e1;cases e2;exact kp _ _ _ g2
   |2,e1,e2=>cases e1;cases e2;exact kp _ _ _ g3
  rintro σ HX ⟨u9,as,rfl,sX,tX,lX,AX⟩;change AksAt HX as [Ak.jo a t.2.1 t.2.2.1,Ak.pa a,Ak.ev a,Ak.jo b t.2.1 t.2.2.1,Ak.pa b,Ak.ev b] at AX;have SX:=S4.trans sX;refine⟨_,rfl,_,rfl,_,rfl,l8,_,rfl,.inl ⟨SqL.of lX,λta hta=> ?_⟩⟩;have s9:=SX.trans (Ac (o:= .tup (as.map V.ref)) hta);have A9:=AX.mono λr xs e=>Ac (o:= .tup (as.map V.ref)) hta _ _ e;have e9:=Ab (H:=HX) (a:=ta) (o:= .tup (as.map V.ref));generalize upd HX ta (.tup (as.map V.ref))=H9 at s9 A9 e9 ⊢;have N60:N<=60:=by omega
  have iA:=Pq hR ha;have iB:=Pq hR hb;refine⟨y,h,ta,N,ds,as,_,rfl,hH.same s9,hR,N1,N24,e9,A9,λk hk=> ?_,(by show 6<=60;decide),λav H10 s10 eav=> ?_⟩
  ·simp only[Qa6,Qd9,or_false] at hk;rcases hk with rfl|rfl|rfl|rfl|rfl|rfl
   ·exact⟨ha,t1,t2⟩
   ·exact ha
   ·exact ha
   ·exact⟨hb,t1,t2⟩
   ·exact hb
   ·exact hb
  change H10 av=some (.tup [.bl (joB N (thr (ds.take a)) t.2.1 t.2.2.1),.int ((lsF N (thr (ds.take a))).length:Nat),.bl (Ht (thr (ds.take a))),.bl (joB N (thr (ds.take b)) t.2.1 t.2.2.1),.int ((lsF N (thr (ds.take b))).length:Nat),.bl (Ht (thr (ds.take b)))]) at eav;have m1:=Sf iB N60 hm t1 t2;have m2:=Uu iA iB N60 hm t1 t2;have m3:=Ur hm;rw[m1] at eav;generalize thr (ds.take a)=SA at eav m2 m3;generalize thr (ds.take b)=SB at eav m2 m3;refine⟨av,_,rfl,SqT.of eav,rfl,_,_,rfl,_,_,rfl,_,_,rfl,_,_,rfl,_,_,rfl,_,_,rfl,rfl,?_⟩;dsimp only[B6];refine⟨_,rfl,_,rfl,B7 (λg=>absurd g (by decide)) λ_=> ?_⟩;refine⟨_,rfl,_,rfl,_,rfl,_,rfl,.inr ⟨_,rfl,_,_,rfl,rfl,rfl,_,rfl,B7 (λg=>absurd g ?_) λ_=> ?_⟩⟩
  ·rw[m2];cases joB N SA t.2.1 t.2.2.1<;> simp
  ·have S10:=s9.trans s10;refine⟨_,rfl,_,rfl,B7 (λ_=>k _ S10) λg=> ?_⟩;refine⟨_,rfl,_,rfl,?_⟩;have g2:(!Ht SB)=true:=by
    cases e:Ht SA with
    |true=>exact absurd e g
    |false=>rw[e] at m3;simpa using m3
   rw[g2];exact k _ S10
theorem mod_nd{N M f:Nat}(h:M<=N):((List.range M).map λj=>(f+j) % N).Nodup:=by
 refine Qc4.mpr (Pairwise.imp_of_mem ?_ (Qf5 (n:=M)));intro i j hi hj ij e;have hj:=mem_range.mp hj;have:=Nat.sub_mod_eq_zero_of_mod_eq e.symm;rw[show f+j - (f+i)=j - i by omega,Nat.mod_eq_of_lt (by omega)] at this;omega
theorem scLaw:Av ["_law_script","_law_deck_here","_law_names_here","_law_many","_law_history","_law_last","_law_first","_law_places_here","_law_n","_law_way","_law_turn","_law_k"] ["_law_script"] (Ah sLaw):=⟨rfl,rfl,rfl,by decide+kernel,rfl,by decide+kernel,by decide+kernel⟩
theorem ok_Law{f:Addr}{fd:FuncData}(F:Fun K "law" "law" sLaw f fd)(T:Txt K mg C I)(GDeck:Cl P w K mg base 16 "_law_deck" ["_law_script"] (U4 K))(GNames:Cl P w K mg base 16 "_law_names" ["_law_deck_here"] Ph)(GRare:Cl P w K mg base 16 "_law_rare" ["_law_deck_here","_law_often","_law_rare_here"] U7)(GTake:Cl P w K mg base 16 "_law_take" ["_law_deck_here","_law_most"] Gh)(GDeeds:Cl P w K mg base 16 "_law_deeds" ["_law_deck_here","_law_many","_law_names_here","_law_count"] O8)(GMoment:Cl P w K mg base 16 "_law_moment_right" ["_law_way","_law_history","_law_n","_law_places_here"] Ml)(GStep:Cl P w K mg base 16 "_law_step_right" ["_law_way","_law_history","_law_k"] Tp):
  FnOk P w K mg base CX0 17 f fd ["_law_script"] (V3 K):=by
 refine F.ok scLaw (λvs H Q E h=> ?_) (λcdv A outer s H vs Q E hr h=> ?_)
 ·obtain⟨_,_,rfl,_⟩:=h;rfl
 ·obtain⟨s,ns,rfl,hS,hl,k⟩:=h;refine⟨_,Ae (Aq (i:=1) scLaw.nd rfl (Or.inl rfl) (A7 GDeck hr (Aa (pv 0) Ad)))
   (Ae (Aq (i:=2) scLaw.nd rfl (Or.inl rfl) (A7 GNames hr (Aa (pv 1) Ad)))
   (Ae (Aq (i:=3) scLaw.nd rfl (Or.inr rfl) (A7 GRare hr (Aa (pv 1) (Aa (Au Bi Af (A7 GTake hr (Aa (pv 1) (Aa Af Ad)))) (Aa Af Ad)))))
   (Ae (Aq (i:=4) scLaw.nd rfl (Or.inl rfl) (A1 (Aa (pv 3) (Aa (A7 GDeeds hr (Aa (pv 1) (Aa (pv 3) (Aa (pv 2) (Aa (A7 GRare hr (Aa (pv 1) (Aa (Au Bi Af (A7 GTake hr (Aa (pv 1) (Aa Af Ad)))) (Aa Af Ad)))) Ad))))) Ad))))
   (Ae (Aq (i:=5) scLaw.nd rfl (Or.inl rfl) (A0 Ay (by rfl) T.len PySem.boot_len (Aa (Ao At (pv 4) Af (λ_ _=>rfl)) Ad)))
   (Ae (Aq (i:=6) scLaw.nd rfl (Or.inr rfl) (A7 GTake hr (Aa (pv 1) (Aa (pv 3) Ad))))
   (Ae (Eo (i:=7) (T:=["_law_k"]) (F:=["_law_many","_law_first"]) (js:=[3,6]) scLaw.nd rfl (Or.inl rfl) (cs (osc:=Ah sLaw)) rfl (Cj rfl T.range (Aa (A0 (Gm rfl) (by rfl) T.min (by decide+kernel) (Aa Af (Aa (pv 3) Ad))) Ad)) (λ_ _ _ _ _=>Aj (i:=0) (show (["_law_k","_law_many","_law_first"]:List Str).Nodup by decide+kernel) rfl (Or.inl rfl)) (λ_ _ _ _ _=>Ce) (λ_ _ _ _ _=>Au Cv (Au Bi (pv 2) (pv 0)) (pv 1)))
   (Ae (Cb PassesOwn.never rfl (Cd (Bh (Aa (A7 GTake hr (Aa (pv 1) (Aa (Au Bi (pv 5) Af) Ad))) (Aa (A7 GTake hr (Aa (pv 1) (Aa (Au Bi (pv 5) Af) Ad))) (Aa (pv 5) Ad))))) (Aj (i:=8) scLaw.nd rfl (Or.inl rfl)) (Ag (Cb PassesOwn.never rfl (Cj rfl T.range (Aa Af Ad)) (Aj (i:=9) scLaw.nd rfl (Or.inl rfl)) (Ag (Br (Hm (Gg (A7 GMoment hr (Aa (pv 9) (Aa (pv 4) (Aa (pv 8) (Aa (pv 7) Ad))))))) (Ag (As Gb)) Bd)))))
   (Ae (Cb PassesOwn.never rfl (Cj rfl T.range (Aa (A0 (Gm rfl) (by rfl) T.min (by decide+kernel) (Aa Af (Aa (pv 5) Ad))) Ad)) (Aj (i:=10) scLaw.nd rfl (Or.inl rfl)) (Ae (Aq (i:=11) scLaw.nd rfl (Or.inl rfl) (A7 GTake hr (Aa (pv 1) (Aa (pv 5) Ad))))
   (Ag (Cb PassesOwn.never rfl (Cj rfl T.range (Aa Af Ad)) (Aj (i:=9) scLaw.nd rfl (Or.inl rfl)) (Ag (Br (Hm (Gg (A7 GStep hr (Aa (pv 9) (Aa (pv 4) (Aa (pv 11) Ad)))))) (Ag (As Gb)) Bd))))))
   (Ag (As Gb)))))))))),?_⟩
  refine⟨_,rfl,s,ns,rfl,hS,hl,λa c H1 s1 an cn D1=> ?_⟩;refine⟨_,rfl,a,c,rfl,D1,λnm zs H2 b2 D2 n2 nna nnc zl znd=> ?_⟩;refine⟨_,rfl,_,rfl,a,c,7,rfl,D2,by decide,by decide,λx H3 x0 x1 b3 D3=>⟨_,_,rfl,rfl,a,c,_,_,rfl,D3,λv H4 hv b4 D4=> ?_⟩⟩;obtain⟨N,rfl,N1,N24⟩:∃N:Nat,v=(N:Int)/\1<=N/\N<=24:=by
   rcases hv with rfl|rfl
   ·exact⟨(2+x).toNat,by omega,by omega,by omega⟩
   ·exact⟨24,rfl,by decide,by decide⟩
  have n4:=b4 _ _ (b3 _ _ n2 nna nnc) nna nnc;refine⟨_,rfl,_,rfl,_,rfl,_,rfl,_,rfl,_,rfl,a,c,16,rfl,D4,by decide,by decide,λy H5 y0 y1 b5 D5=>⟨_,_,rfl,rfl,a,c,_,_,rfl,D5,λw H6 hw b6 D6=> ?_⟩⟩;obtain⟨Cn,rfl,C60⟩:∃C:Nat,w=(C:Int)/\C<=60:=by
   rcases hw with rfl|rfl
   ·exact⟨(1+y).toNat,by omega,by omega⟩
   ·exact⟨60,rfl,le_refl _⟩
  have n6:=b6 _ _ (b5 _ _ n4 nna nnc) nna nnc;refine⟨a,c,nm,N,Cn,zs,rfl,D6,N1,N24,n6,zl,znd,nna,nnc,C60,λtd rsd ds H7 b7 D7 htd hdd hR=> ?_⟩;have dl:=hdd.1;have d60:=hR.len;have ll:(rsd.map V.ref).length=ds.length:=by rw[If,dl]
  clear n6 n4 D1 D2 D3 D4 D5 D6 b2 b3 b4 b5 b6 b7 n2 s1 hS;refine⟨small (by simp),λh hh=> ?_⟩;have s8:=Ac (o:= .tup [.int (N:Int),.ref td]) hh;have eh:=Ab (H:=H7) (a:=h) (o:= .tup [.int (N:Int),.ref td]);have D8:=D7.same s8;generalize upd H7 h (.tup [.int (N:Int),.ref td])=H8 at s8 eh D8 ⊢;have hH:HistAt H8 h N ds:=⟨td,rsd,eh,s8 _ _ htd,hdd.mono λr xs e=>s8 _ _ e⟩
  have td8:=s8 _ _ htd;clear s8 htd hdd D7 hh;refine⟨_,rfl,h,_,1,_,rfl,rfl,SqT.of eh,Am (j:=1) rfl,td,_,rfl,.inr (SqT.of td8),?_⟩;rw[ll];refine⟨_,rfl,_,rfl,a,c,_,rfl,D8,by omega,by omega,λfi H9 f0 f1 b9 D9=> ?_⟩;obtain⟨fi,rfl⟩:=Gk f0;have hH9:=hH.mono λr xs e=>b9.tup D8 e;clear hH eh td8 D8 b9;obtain⟨M,eM,M6,MN⟩:∃M:Nat,(if (N:Int)<6 then (N:Int) else 6)=(M:Int)/\M<=6/\M<=N:=by
   by_cases g:(N:Int)<6
   ·exact⟨N,by rw[Qa2 g],by omega,le_refl _⟩
   ·exact⟨6,by rw[Qa1 g];rfl,le_refl _,by omega⟩
  refine⟨_,rfl,_,_,rfl,(M:Int),by rw[eM],by omega,by omega,λD hD=>Dl (lo:=0) (n:=(M:Int).toNat) (λj σ ys H6=>∃(u:Option V),σ=[u,some (.int (N:Int)),some (.int (fi:Int))]/\ys=nV ((List.range j).map λj=>(fi+j) % N)/\Same H9 H6/\H6 D=some (.lst ys)) ⟨none,rfl,rfl,Ac hD,Ab⟩ (λj σ ys H7 _ ⟨_,_,_,e,f⟩=>f) ?_ ?_⟩
  ·rintro j σ ys H6 hj ⟨u,rfl,rfl,s6,D6⟩;have nl:(nV ((List.range j).map λj=>(fi+j) % N)).length=j:=by unfold nV;simp
   refine⟨_,rfl,_,rfl,_,_,rfl,rfl,_,rfl,_,_,rfl,rfl,by omega,D6,Ap (by rw[nl];omega),_,rfl,?_,A8 s6 hD,Ab⟩;rw[range_succ,map_append];unfold nV;rw[map_append,map_append]
   congr 1
   show [V.int (((fi:Int)+(0+(j:Int))) % (N:Int))]=[V.int (((fi+j) % N:Nat):Int)];rw[Int.zero_add,Int.natCast_emod,Int.natCast_add]
  rintro σ ys H10 ⟨u,rfl,rfl,s10,p10⟩;rw[Qd4] at p10;have Pl:((List.range M).map λj=>(fi+j) % N).length<=6:=by simpa using M6
  have Pn:=mod_nd (f:=fi) MN;have PN:∀p∈((List.range M).map λj=>(fi+j) % N),p<N:=λp hp=>by
   obtain⟨j,_,rfl⟩:=mem_map.mp hp;exact mod_lt _ N1
  generalize (List.range M).map (λj=>(fi+j) % N)=P at p10 Pl Pn PN;have hH10:=hH9.mono λr xs e=>s10 _ _ e;have D10:=D9.same s10;have nD:=D9.ne' hD;clear hH9 D9 s10 hD eM;dsimp only[B6];refine⟨_,rfl,_,rfl,_,_,rfl,rfl,a,c,_,rfl,D10,by omega,by omega,λm1 H11 m10 m11 b11 D11=> ?_⟩;refine⟨_,rfl,_,rfl,_,_,rfl,rfl,a,c,_,rfl,D11,by omega,by omega,λm2 H12 m20 m21 b12 D12=> ?_⟩;obtain⟨m1,rfl⟩:=Gk m10;obtain⟨m2,rfl⟩:=Gk m20;have hH12:=(hH10.mono λr xs e=>b11.tup D10 e).mono λr xs e=>b12.tup D11 e;have p12:=b12 _ _ (b11 _ _ p10 nD.1 nD.2) nD.1 nD.2;clear hH10 p10 b11 b12 D10 D11;refine⟨_,rfl,small (by simp),λli hli=> ?_⟩;have s13:=Ac (o:= .lst [.int (m1:Int),.int (m2:Int),.int (ds.length:Int)]) hli;have e13:=Ab (H:=H12) (a:=li) (o:= .lst [.int (m1:Int),.int (m2:Int),.int (ds.length:Int)]);have D13:=D12.same s13;generalize upd H12 li (.lst [.int (m1:Int),.int (m2:Int),.int (ds.length:Int)])=H13 at s13 e13 D13 ⊢;have hH13:=hH12.mono λr xs e=>s13 _ _ e;have p13:=s13 _ _ p12;clear hH12 p12 s13 hli D12;change H13 li=some (.lst (nV [m1,m2,ds.length])) at e13;have le3:∀m∈[m1,m2,ds.length],m<=ds.length:=by
   intro m hm;simp only[Qa6,Qd9,or_false] at hm;omega
  refine⟨li,rfl,⟨_,SqL.of e13⟩,Ej (K:=K) (a:=li) (xs:=nV [m1,m2,ds.length]) (λi σ HX=>∃(u8 u9:Option V),σ=[some (.ref s),some (.ref a),some (.ref nm),some (.int (N:Int)),some (.ref h),some (.int (ds.length:Int)),some (.int (fi:Int)),some (.ref D),u8,u9,none,none]/\Same H13 HX) ⟨_,_,rfl,Cw _⟩ (λi σ HX _ ⟨_,_,_,b⟩=>SqL.of (b _ _ e13)) ?_ ?_⟩
  ·rintro i x σ HX hx ⟨u8,u9,rfl,bX⟩;obtain⟨m,em,rfl⟩:=Dt hx;have hm:=le3 m (mem_of_getElem? em);refine⟨2,rfl,by decide,by decide,Fd (lo:=0) (n:=2) (λi σ HY=>∃(u9:Option V),σ=[some (.ref s),some (.ref a),some (.ref nm),some (.int (N:Int)),some (.ref h),some (.int (ds.length:Int)),some (.int (fi:Int)),some (.ref D),some (.int (m:Int)),u9,none,none]/\Same H13 HY) ⟨_,rfl,bX⟩ ?_ ?_⟩
   ·rintro j σ HY hj ⟨u9,rfl,bY⟩;refine⟨_,rfl,_,rfl,_,rfl,_,rfl,_,h,D,N,ds,m,P,rfl,hH13.same bY,hR,N1,N24,hm,bY _ _ p13,Pl,Pn,PN,λHZ sZ=>⟨true,rfl,C4 ?_⟩⟩;exact⟨_,rfl,bY.trans sZ⟩
   ·rintro σ HY ⟨u9,rfl,bY⟩;exact⟨_,_,rfl,bY⟩
  rintro σ HX ⟨u8,u9,rfl,bX⟩;have hHX:=hH13.same bX;have DX:=D13.same bX;clear bX e13 p13 hH13 D13;obtain⟨L,eL,L8,LL⟩:∃L:Nat,(if (ds.length:Int)<8 then (ds.length:Int) else 8)=(L:Int)/\L<=8/\L<=ds.length:=by
   by_cases g:(ds.length:Int)<8
   ·exact⟨ds.length,by rw[Qa2 g],by omega,le_refl _⟩
   ·exact⟨8,by rw[Qa1 g];rfl,le_refl _,by omega⟩
  dsimp only[B6];refine⟨_,rfl,_,_,rfl,(L:Int),by rw[eL],by omega,by omega,Fd (lo:=0) (n:=(L:Int).toNat) (λi σ HY=>∃(u8 u9 u10 u11:Option V),σ=[some (.ref s),some (.ref a),some (.ref nm),some (.int (N:Int)),some (.ref h),some (.int (ds.length:Int)),some (.int (fi:Int)),some (.ref D),u8,u9,u10,u11]/\HistAt HY h N ds/\DeckAt HY a c) ⟨_,_,_,_,rfl,hHX,DX⟩ ?_ ?_⟩
  ·rintro i σ HY hi ⟨u8,u9,u10,u11,rfl,hY,DY⟩;refine⟨_,rfl,_,rfl,a,c,_,rfl,DY,by omega,by omega,λkk HZ k0 k1 bZ DZ=> ?_⟩;obtain⟨kk,rfl⟩:=Gk k0;have hZ:=hY.mono λr xs e=>bZ.tup DY e;refine⟨2,rfl,by decide,by decide,Fd (lo:=0) (n:=2) (λi σ HY=>∃(u9 u10:Option V),σ=[some (.ref s),some (.ref a),some (.ref nm),some (.int (N:Int)),some (.ref h),some (.int (ds.length:Int)),some (.int (fi:Int)),some (.ref D),u8,u9,u10,some (.int (kk:Int))]/\Same HZ HY) ⟨_,_,rfl,Cw _⟩ ?_ ?_⟩
   ·rintro j σ HW hj ⟨u9,u10,rfl,bW⟩;refine⟨_,rfl,_,rfl,_,rfl,_,h,N,ds,kk,rfl,hZ.same bW,hR,N1,N24,by omega,λHV sV=>⟨true,rfl,C4 ?_⟩⟩;exact⟨_,_,rfl,bW.trans sV⟩
   ·rintro σ HW ⟨u9,u10,rfl,bW⟩;exact⟨_,_,_,_,rfl,hZ.same bW,DZ.same bW⟩
  ·rintro σ HY ⟨u8,u9,u10,u11,rfl,hY,DY⟩;exact k HY
end K29
namespace K29
variable{P:Program}{w:World}{K:Frag}{mg:Str->Option Value}{base:Heap}{C I:Addr}
open PySem L2 Wk M24
theorem scPo:Av ["size","low","high"] ["size","low","high"] (Ah sPo):=⟨rfl,rfl,rfl,by decide+kernel,rfl,by decide+kernel,by decide+kernel⟩
theorem ok_po{f g:Addr}{fd fg:FuncData}(F:Fun K "pieces_of" "pieces_of" sPo f fd)(T:Txt K mg C I)(Fg:Fun K "pieces_in" "pieces_in" sPin g fg)(bg:Binds K fg ["first","last","low","high"] [])(hm:mg "pieces_in"=some (.ref g)):
  FnOk P w K mg base CX0 8 f fd ["size","low","high"] spPo:=by
 have G:FnOk P w K mg base CX0 7 g fg ["first","last","low","high"] (spPin 6):=ok_pin Fg bg hm 6;refine F.ok scPo (λvs H Q E h=> ?_) (λcdv A outer s H vs Q E hr h=> ?_)
 ·obtain⟨_,_,_,rfl,_⟩:=h;rfl
 ·obtain⟨sz,lo,hi,rfl,h1,h2,k⟩:=h;refine⟨_,Ag (As (Bb Ba (by rfl) T.tuple (by decide+kernel) (Aa (Go G hr rfl hm Fg.kp bg .nil C7 (Aa Af (Aa (pv 0) (Aa (pv 1) (Aa (pv 2) Ad))))) Ad))),?_⟩;refine⟨_,rfl,_,rfl,_,rfl,0,sz,lo,hi,rfl,by omega,by omega,by omega,λa rs H' s1 n1 l1 p1=> ?_⟩;exact⟨a,_,rfl,.inl ⟨SqL.of l1,λt ht=>k t rs _ (s1.trans (Ac ht)) Ab (p1.same (Ac ht))⟩⟩
end K29
namespace K29
variable{P:Program}{w:World}{K:Frag}{mg:Str->Option Value}{base:Heap}{C I:Addr}
open PySem L2 Wk
theorem us1{fd:FuncData}{ps:List Str}(hp:ps.length=1)(h:∀a0:Value,bindArgs fd ⟨[a0],[]⟩=pure (ps.zip [a0])):∀us:List Value,us.length=ps.length->bindArgs fd ⟨us,[]⟩=pure (ps.zip us):=λus hl=>match us,hl.trans hp with|[a0],_=>h a0
theorem us2{fd:FuncData}{ps:List Str}(hp:ps.length=2)(h:∀a0 a1:Value,bindArgs fd ⟨[a0,a1],[]⟩=pure (ps.zip [a0,a1])):∀us:List Value,us.length=ps.length->bindArgs fd ⟨us,[]⟩=pure (ps.zip us):=λus hl=>match us,hl.trans hp with|[a0,a1],_=>h a0 a1
theorem us3{fd:FuncData}{ps:List Str}(hp:ps.length=3)(h:∀a0 a1 a2:Value,bindArgs fd ⟨[a0,a1,a2],[]⟩=pure (ps.zip [a0,a1,a2])):∀us:List Value,us.length=ps.length->bindArgs fd ⟨us,[]⟩=pure (ps.zip us):=λus hl=>match us,hl.trans hp with|[a0,a1,a2],_=>h a0 a1 a2
theorem us4{fd:FuncData}{ps:List Str}(hp:ps.length=4)(h:∀a0 a1 a2 a3:Value,bindArgs fd ⟨[a0,a1,a2,a3],[]⟩=pure (ps.zip [a0,a1,a2,a3])):∀us:List Value,us.length=ps.length->bindArgs fd ⟨us,[]⟩=pure (ps.zip us):=λus hl=>match us,hl.trans hp with|[a0,a1,a2,a3],_=>h a0 a1 a2 a3
theorem us6{fd:FuncData}{ps:List Str}(hp:ps.length=6)(h:∀a0 a1 a2 a3 a4 a5:Value,bindArgs fd ⟨[a0,a1,a2,a3,a4,a5],[]⟩=pure (ps.zip [a0,a1,a2,a3,a4,a5])):∀us:List Value,us.length=ps.length->bindArgs fd ⟨us,[]⟩=pure (ps.zip us):=λus hl=>match us,hl.trans hp with|[a0,a1,a2,a3,a4,a5],_=>h a0 a1 a2 a3 a4 a5
theorem all_mk{l:PySem.W.OpenLaw}{w:World}{K:Frag}{h:Heap}{mg:Str->Option Value}{fa C f0 f1 f2 f3 f4 f5 f6 f7 f8 f9 f10 f11 f12 f13 f14 f15 f16 f17 f18 f19 f20 f21 f22 f23 f24 f25 f26 f27 f28 f29 f30 f31 f32 f33 f34 f35 f36 f37 f38 f39 f40 f41 f42 f43 f44:Addr}(X:K.In h)(G:h.Ns mainGlobals mg)(hfa:mg "law"=some (.ref fa)){od4 an4 od5 an5 od6 an6 od7 an7 od8 an8 od9 an9 od10 an10 od11 an11 od12 an12:Option Addr}{sl4 sl5 sl6 sl7 sl8 sl9 sl10 sl11 sl12:Array (Option Value)}{oc4 kV4 dc4 pm4 cd4 ct4 oc5 kV5 dc5 pm5 cd5 ct5 oc6 kV6 dc6 pm6 cd6 ct6 oc7 kV7 dc7 pm7 cd7 ct7 oc8 kV8 dc8 pm8 cd8 ct8 oc9 kV9 dc9 pm9 cd9 ct9 oc10 kV10 dc10 pm10 cd10 ct10 oc11 kV11 dc11 pm11 cd11 ct11 oc12 kV12 dc12 pm12 cd12 ct12:Value}(aC:PySem.W.nsIn K mainGlobals "Takes"=some (some (.ref C)))(x0:FA K "is_whole" Tw f0)(x1:FA K "is_within" Ou f1)(x2:FA K "stays" Ub f2)(x3:FA K "joined_parts" sJp f3)(a4:findIn K (.ref C) "__init__"=some (some (.ref f4)))(i4:isFn K (.ref f4)=true)(l4:K.lookup f4=some ⟨oc4,od4,.func (PySem.W.fnOf "__init__" "Takes.__init__" (Cf Oj) (By Oj) (Ah Oj) .none kV4 dc4 pm4 an4 cd4 ct4),sl4⟩)(c4:PySem.W.codeIn K cd4 "Takes.__init__"=true)(k4:keepIn K (.ref f4)=true)(a5:findIn K (.ref C) "shown"=some (some (.ref f5)))(i5:isFn K (.ref f5)=true)(l5:K.lookup f5=some ⟨oc5,od5,.func (PySem.W.fnOf "shown" "Takes.shown" (Cf Jm) (By Jm) (Ah Jm) .none kV5 dc5 pm5 an5 cd5 ct5),sl5⟩)(c5:PySem.W.codeIn K cd5 "Takes.shown"=true)(k5:keepIn K (.ref f5)=true)(a6:findIn K (.ref C) "top"=some (some (.ref f6)))(i6:isFn K (.ref f6)=true)(l6:K.lookup f6=some ⟨oc6,od6,.func (PySem.W.fnOf "top" "Takes.top" (Cf Xs) (By Xs) (Ah Xs) .none kV6 dc6 pm6 an6 cd6 ct6),sl6⟩)(c6:PySem.W.codeIn K cd6 "Takes.top"=true)(k6:keepIn K (.ref f6)=true)(a7:findIn K (.ref C) "odd"=some (some (.ref f7)))(i7:isFn K (.ref f7)=true)(l7:K.lookup f7=some ⟨oc7,od7,.func (PySem.W.fnOf "odd" "Takes.odd" (Cf Xq) (By Xq) (Ah Xq) .none kV7 dc7 pm7 an7 cd7 ct7),sl7⟩)(c7:PySem.W.codeIn K cd7 "Takes.odd"=true)(k7:keepIn K (.ref f7)=true)(a8:findIn K (.ref C) "joins"=some (some (.ref f8)))(i8:isFn K (.ref f8)=true)(l8:K.lookup f8=some ⟨oc8,od8,.func (PySem.W.fnOf "joins" "Takes.joins" (Cf Jx) (By Jx) (Ah Jx) .none kV8 dc8 pm8 an8 cd8 ct8),sl8⟩)(c8:PySem.W.codeIn K cd8 "Takes.joins"=true)(k8:keepIn K (.ref f8)=true)(a9:findIn K (.ref C) "size"=some (some (.ref f9)))(i9:isFn K (.ref f9)=true)(l9:K.lookup f9=some ⟨oc9,od9,.func (PySem.W.fnOf "size" "Takes.size" (Cf Oi) (By Oi) (Ah Oi) .none kV9 dc9 pm9 an9 cd9 ct9),sl9⟩)(c9:PySem.W.codeIn K cd9 "Takes.size"=true)(k9:keepIn K (.ref f9)=true)(a10:findIn K (.ref C) "parts"=some (some (.ref f10)))(i10:isFn K (.ref f10)=true)(l10:K.lookup f10=some ⟨oc10,od10,.func (PySem.W.fnOf "parts" "Takes.parts" (Cf Hn) (By Hn) (Ah Hn) .none kV10 dc10 pm10 an10 cd10 ct10),sl10⟩)(c10:PySem.W.codeIn K cd10 "Takes.parts"=true)(k10:keepIn K (.ref f10)=true)(a11:findIn K (.ref C) "join"=some (some (.ref f11)))(i11:isFn K (.ref f11)=true)(l11:K.lookup f11=some ⟨oc11,od11,.func (PySem.W.fnOf "join" "Takes.join" (Cf Ol) (By Ol) (Ah Ol) .none kV11 dc11 pm11 an11 cd11 ct11),sl11⟩)(c11:PySem.W.codeIn K cd11 "Takes.join"=true)(k11:keepIn K (.ref f11)=true)(a12:findIn K (.ref C) "back"=some (some (.ref f12)))(i12:isFn K (.ref f12)=true)(l12:K.lookup f12=some ⟨oc12,od12,.func (PySem.W.fnOf "back" "Takes.back" (Cf Nu) (By Nu) (Ah Nu) .none kV12 dc12 pm12 an12 cd12 ct12),sl12⟩)(c12:PySem.W.codeIn K cd12 "Takes.back"=true)(k12:keepIn K (.ref f12)=true)(x13:FA K "pieces_in" sPin f13)(x14:FA K "pieces_of" sPo f14)(x15:FA K "lives_of" Pp f15)(x16:FA K "beside_of" Kx f16)(x17:FA K "ways_from" sWays f17)(x18:FA K "part_of" Vj f18)(x19:FA K "are_joined" O9 f19)(x20:FA K "parts_of" Mq f20)(x21:FA K "ways_from_least" P7 f21)(x22:FA K "ring_over" T2 f22)(x23:FA K "sides_of" Ik f23)(x24:FA K "have_two_sides" K3 f24)(x25:FA K "stand_behind" Pf f25)(x26:FA K "answer_of" sAns f26)(x27:FA K "answers_plainly" Ov f27)(x28:FA K "_law_deck" sDeck f28)(x29:FA K "_law_take" sTake f29)(x30:FA K "_law_rare" Z5 f30)(x31:FA K "_law_names" K6 f31)(x32:FA K "_law_places" P3 f32)(x33:FA K "_law_tie" sTie f33)(x34:FA K "_law_deeds" Ui f34)(x35:FA K "joins_laid" sLaid f35)(x36:FA K "answer_by" sAby f36)(x37:FA K "told_in" Wg f37)(x38:FA K "answers_by_halves" V8 f38)(x39:FA K "_law_answers" Lc f39)(x40:FA K "_law_together" Fb f40)(x41:FA K "_law_moment_right" En f41)(x42:FA K "_law_tie_of" Pk f42)(x43:FA K "_law_step_right" sStep f43)(x44:FA K "law" sLaw f44)(pg:plainGet K C Str.empty=true)(hd:hasDictIn K C=true)(po:plainOver K C=true)(sa:findIn K (.ref C) "__setattr__"=some (some (.builtin "object.__setattr__")))(mk:makesIn K C=true)(kc:keepIn K (.ref C)=true)(n0:findIn K (.ref C) "states"=some none)(z0:PySem.W.nsIn K mainGlobals "isinstance"=some none)(z1:PySem.W.nsIn K mainGlobals "int"=some none)(z2:PySem.W.nsIn K mainGlobals "bool"=some none)(z3:PySem.W.nsIn K mainGlobals "tuple"=some none)(z4:PySem.W.nsIn K mainGlobals "len"=some none)(z5:PySem.W.nsIn K mainGlobals "range"=some none)(z6:PySem.W.nsIn K mainGlobals "sum"=some none)(z7:PySem.W.nsIn K mainGlobals "min"=some none)(z8:PySem.W.nsIn K mainGlobals "zip"=some none)(z9:PySem.W.nsIn K mainGlobals "sorted"=some none)(z10:PySem.W.nsIn K mainGlobals "list"=some none)(z11:PySem.W.nsIn K mainGlobals "enumerate"=some none)(z12:PySem.W.nsIn K mainGlobals "set"=some none)(z13:PySem.W.nsIn K mainGlobals "dict"=some none):
  ∃fd:FuncData,(∀(s:Shared) (v:Value),BindsTo s fd ⟨[v],[]⟩ [("_law_script",v)])/\∀base:Heap,K.In base->base.Ns mainGlobals mg->FnOk l.prog w K mg base CX0 17 fa fd ["_law_script"] (V3 K):=by
 have e:=hfa.symm.trans (mg_of X G x44.a);cases e;have T:Txt K mg C f4:=⟨⟨pg,hd,po,sa⟩,n0,⟨mk,a4,i4,kc⟩,mg_of X G aC,Qd6 X G z0,Qd6 X G z1,Qd6 X G z2,Qd6 X G z3,Qd6 X G z4,Qd6 X G z5,Qd6 X G z6,Qd6 X G z7,Qd6 X G z8,Qd6 X G z9,Qd6 X G z10,Qd6 X G z11,Qd6 X G z12,Qd6 X G z13⟩
 obtain⟨d0,F0⟩:=x0.fn;obtain⟨d1,F1⟩:=x1.fn;obtain⟨d2,F2⟩:=x2.fn;obtain⟨d3,F3⟩:=x3.fn;have F4:=Ev (st:=Oj) l4 c4 k4;have b4:=F4.binds (ps:=["self","many"]) λ_ _ _ _ _ _=>us2 rfl λ_ _=>rfl;have F5:=Ev (st:=Jm) l5 c5 k5;have b5:=F5.binds (ps:=["self"]) λ_ _ _ _ _ _=>us1 rfl λ_=>rfl;have F6:=Ev (st:=Xs) l6 c6 k6;have b6:=F6.binds (ps:=["self","place"]) λ_ _ _ _ _ _=>us2 rfl λ_ _=>rfl;have F7:=Ev (st:=Xq) l7 c7 k7;have b7:=F7.binds (ps:=["self"]) λ_ _ _ _ _ _=>us1 rfl λ_=>rfl;have F8:=Ev (st:=Jx) l8 c8 k8;have b8:=F8.binds (ps:=["self"]) λ_ _ _ _ _ _=>us1 rfl λ_=>rfl;have F9:=Ev (st:=Oi) l9 c9 k9;have b9:=F9.binds (ps:=["self","place"]) λ_ _ _ _ _ _=>us2 rfl λ_ _=>rfl;have F10:=Ev (st:=Hn) l10 c10 k10;have b10:=F10.binds (ps:=["self"]) λ_ _ _ _ _ _=>us1 rfl λ_=>rfl;have F11:=Ev (st:=Ol) l11 c11 k11;have b11:=F11.binds (ps:=["self","one","other"]) λ_ _ _ _ _ _=>us3 rfl λ_ _ _=>rfl;have F12:=Ev (st:=Nu) l12 c12 k12;have b12:=F12.binds (ps:=["self","thing"]) λ_ _ _ _ _ _=>us2 rfl λ_ _=>rfl;obtain⟨d13,F13⟩:=x13.fn;have b13:=F13.binds (ps:=["first","last","low","high"]) λ_ _ _ _ _ _=>us4 rfl λ_ _ _ _=>rfl;obtain⟨d14,F14⟩:=x14.fn;obtain⟨d15,F15⟩:=x15.fn;obtain⟨d16,F16⟩:=x16.fn;obtain⟨d17,F17⟩:=x17.fn;obtain⟨d18,F18⟩:=x18.fn;obtain⟨d19,F19⟩:=x19.fn;obtain⟨d20,F20⟩:=x20.fn;obtain⟨d21,F21⟩:=x21.fn;obtain⟨d22,F22⟩:=x22.fn;obtain⟨d23,F23⟩:=x23.fn;obtain⟨d24,F24⟩:=x24.fn;obtain⟨d25,F25⟩:=x25.fn;obtain⟨d26,F26⟩:=x26.fn;obtain⟨d27,F27⟩:=x27.fn;obtain⟨d28,F28⟩:=x28.fn;obtain⟨d29,F29⟩:=x29.fn;obtain⟨d30,F30⟩:=x30.fn;obtain⟨d31,F31⟩:=x31.fn;obtain⟨d32,F32⟩:=x32.fn;obtain⟨d33,F33⟩:=x33.fn;obtain⟨d34,F34⟩:=x34.fn;obtain⟨d35,F35⟩:=x35.fn;obtain⟨d36,F36⟩:=x36.fn;obtain⟨d37,F37⟩:=x37.fn;have b37:=F37.binds (ps:=["laid","takes","half","asks"]) λ_ _ _ _ _ _=>us4 rfl λ_ _ _ _=>rfl;obtain⟨d38,F38⟩:=x38.fn;obtain⟨d39,F39⟩:=x39.fn;obtain⟨d40,F40⟩:=x40.fn;obtain⟨d41,F41⟩:=x41.fn;obtain⟨d42,F42⟩:=x42.fn;obtain⟨d43,F43⟩:=x43.fn;obtain⟨d44,F44⟩:=x44.fn;refine⟨d44,F44.bindsTo,λbase _ _=> ?_⟩;have C0:=Cy l.prog w base F0 x0 X G (λ_ _ _ _ _ _=>us1 rfl λ_=>rfl) (show FnOk l.prog w K mg base CX0 1 f0 _ ["thing"] Qk from ok_Whole F0 T);have C1:=Cy l.prog w base F1 x1 X G (λ_ _ _ _ _ _=>us3 rfl λ_ _ _=>rfl) (show FnOk l.prog w K mg base CX0 2 f1 _ ["thing","low","high"] Lm from Yl F1 T C0.up);have C2:=Cy l.prog w base F2 x2 X G (λ_ _ _ _ _ _=>us3 rfl λ_ _ _=>rfl) (show FnOk l.prog w K mg base CX0 1 f2 _ ["tops","one","other"] (Qa K) from ok_Stays F2 T);have C3:=Cy l.prog w base F3 x3 X G (λ_ _ _ _ _ _=>us4 rfl λ_ _ _ _=>rfl) (show FnOk l.prog w K mg base CX0 2 f3 _ ["tops","sides","one","other"] (spJp K) from ok_Jp F3 T C2.up);have Q4:FnOk l.prog w K mg base CX0 1 f4 _ ["self","many"] (U3 C):=ok_Init F4 T;have Q5:FnOk l.prog w K mg base CX0 1 f5 _ ["self"] (Fr C):=Y5 F5 T;have Q6:FnOk l.prog w K mg base CX0 2 f6 _ ["self","place"] (Vz C):=ok_Top F6 T b5 ⟨a5,i5,k5⟩ (Q5.mono (by decide));have Q7:FnOk l.prog w K mg base CX0 2 f7 _ ["self"] (spOdd C):=ok_Odd F7 T b5 ⟨a5,i5,k5⟩ (Q5.mono (by decide))
 have Q8:FnOk l.prog w K mg base CX0 1 f8 _ ["self"] (Kw C):=Yw F8 T;have Q9:FnOk l.prog w K mg base CX0 3 f9 _ ["self","place"] (Tr C):=ok_Size F9 T b5 ⟨a5,i5,k5⟩ (Q5.mono (by decide)) b6 ⟨a6,i6,k6⟩ (Q6.mono (by decide));have Q10:FnOk l.prog w K mg base CX0 2 f10 _ ["self"] (Pu C):=ok_Parts F10 T b5 ⟨a5,i5,k5⟩ (Q5.mono (by decide));have Q11:FnOk l.prog w K mg base CX0 3 f11 _ ["self","one","other"] (Tl C):=ok_Join F11 T b5 ⟨a5,i5,k5⟩ (Q5.mono (by decide)) C3.up;have Q12:FnOk l.prog w K mg base CX0 3 f12 _ ["self","thing"] (U5 C):=ok_Back F12 T C1.up b8 ⟨a8,i8,k8⟩ (Q8.mono (by decide));have C14:=Cy l.prog w base F14 x14 X G (λ_ _ _ _ _ _=>us3 rfl λ_ _ _=>rfl) (show FnOk l.prog w K mg base CX0 9 f14 _ ["size","low","high"] spPo from(ok_po F14 T F13 b13 (mg_of X G x13.a)).mono (by decide));have C15:=Cy l.prog w base F15 x15 X G (λ_ _ _ _ _ _=>us1 rfl λ_=>rfl) (show FnOk l.prog w K mg base CX0 1 f15 _ ["history"] O3 from Zq F15 T);have C16:=Cy l.prog w base F16 x16 X G (λ_ _ _ _ _ _=>us2 rfl λ_ _=>rfl) (show FnOk l.prog w K mg base CX0 1 f16 _ ["many","stand"] Ll from Xl F16 T);have C17:=Cy l.prog w base F17 x17 X G (λ_ _ _ _ _ _=>us3 rfl λ_ _ _=>rfl) (show FnOk l.prog w K mg base CX0 2 f17 _ ["many","stand","place"] Pg from ok_Ways F17 T C16.up);have C18:=Cy l.prog w base F18 x18 X G (λ_ _ _ _ _ _=>us3 rfl λ_ _ _=>rfl) (show FnOk l.prog w K mg base CX0 3 f18 _ ["many","stand","place"] Lq from ok_Part F18 T C17.up);have C19:=Cy l.prog w base F19 x19 X G (λ_ _ _ _ _ _=>us4 rfl λ_ _ _ _=>rfl) (show FnOk l.prog w K mg base CX0 4 f19 _ ["many","stand","one","other"] Lf from Xv F19 T C18.up);have C20:=Cy l.prog w base F20 x20 X G (λ_ _ _ _ _ _=>us2 rfl λ_ _=>rfl) (show FnOk l.prog w K mg base CX0 4 f20 _ ["many","stand"] Km from ok_PtsOf F20 T C18.up);have C21:=Cy l.prog w base F21 x21 X G (λ_ _ _ _ _ _=>us2 rfl λ_ _=>rfl) (show FnOk l.prog w K mg base CX0 5 f21 _ ["many","stand"] Mn from Xx F21 T C20.up C17.up);have C22:=Cy l.prog w base F22 x22 X G (λ_ _ _ _ _ _=>us2 rfl λ_ _=>rfl) (show FnOk l.prog w K mg base CX0 1 f22 _ ["ways","tie"] Pd from Zg F22 T);have C23:=Cy l.prog w base F23 x23 X G (λ_ _ _ _ _ _=>us2 rfl λ_ _=>rfl) (show FnOk l.prog w K mg base CX0 6 f23 _ ["many","stand"] Jf from Vc F23 T C21.up C22.up);have C24:=Cy l.prog w base F24 x24 X G (λ_ _ _ _ _ _=>us2 rfl λ_ _=>rfl) (show FnOk l.prog w K mg base CX0 7 f24 _ ["many","stand"] Jn from Tk F24 T C23.up);have C25:=Cy l.prog w base F25 x25 X G (λ_ _ _ _ _ _=>us2 rfl λ_ _=>rfl) (show FnOk l.prog w K mg base CX0 1 f25 _ ["history","n"] K7 from Wu F25 T);have C26:=Cy l.prog w base F26 x26 X G (λ_ _ _ _ _ _=>us3 rfl λ_ _ _=>rfl) (show FnOk l.prog w K mg base CX0 8 f26 _ ["many","stand","ask"] spAns from ok_Ans F26 T C19.up C20.up C18.up C24.up);have C27:=Cy l.prog w base F27 x27 X G (λ_ _ _ _ _ _=>us2 rfl λ_ _=>rfl) (show FnOk l.prog w K mg base CX0 9 f27 _ ["history","asks"] Qh from ok_Plain F27 T C26.up C25.up)
 have C28:=Cy l.prog w base F28 x28 X G (λ_ _ _ _ _ _=>us1 rfl λ_=>rfl) (show FnOk l.prog w K mg base CX0 1 f28 _ ["_law_script"] (U4 K) from ok_Deck F28 T);have C29:=Cy l.prog w base F29 x29 X G (λ_ _ _ _ _ _=>us2 rfl λ_ _=>rfl) (show FnOk l.prog w K mg base CX0 1 f29 _ ["_law_deck_here","_law_most"] Gh from ok_Take F29 T);have C30:=Cy l.prog w base F30 x30 X G (λ_ _ _ _ _ _=>us3 rfl λ_ _ _=>rfl) (show FnOk l.prog w K mg base CX0 2 f30 _ ["_law_deck_here","_law_often","_law_rare_here"] U7 from ok_Rare F30 T C29.up);have C31:=Cy l.prog w base F31 x31 X G (λ_ _ _ _ _ _=>us1 rfl λ_=>rfl) (show FnOk l.prog w K mg base CX0 2 f31 _ ["_law_deck_here"] Ph from Zw F31 T C29.up);have C32:=Cy l.prog w base F32 x32 X G (λ_ _ _ _ _ _=>us4 rfl λ_ _ _ _=>rfl) (show FnOk l.prog w K mg base CX0 2 f32 _ ["_law_deck_here","_law_many","_law_shape","_law_turn"] K2 from Xb F32 T C29.up);have C33:=Cy l.prog w base F33 x33 X G (λ_ _ _ _ _ _=>us6 rfl λ_ _ _ _ _ _=>rfl) (show FnOk l.prog w K mg base CX0 3 f33 _ ["_law_deck_here","_law_many","_law_names_here","_law_shape","_law_there","_law_used"] spTie from ok_Tie F33 T C29.up C32.up);have C34:=Cy l.prog w base F34 x34 X G (λ_ _ _ _ _ _=>us4 rfl λ_ _ _ _=>rfl) (show FnOk l.prog w K mg base CX0 4 f34 _ ["_law_deck_here","_law_many","_law_names_here","_law_count"] O8 from Z4 F34 T C29.up C33.up);have C35:=Cy l.prog w base F35 x35 X G (λ_ _ _ _ _ _=>us1 rfl λ_=>rfl) (show FnOk l.prog w K mg base CX0 10 f35 _ ["history"] Tj from ok_Laid F35 T C15.up C14.up);have C36:=Cy l.prog w base F36 x36 X G (λ_ _ _ _ _ _=>us2 rfl λ_ _=>rfl) (show FnOk l.prog w K mg base CX0 5 f36 _ ["takes","ask"] (spAby C) from ok_Aby F36 T b6 ⟨a6,i6,k6⟩ (Q6.mono (by decide)) b10 ⟨a10,i10,k10⟩ (Q10.mono (by decide)) b9 ⟨a9,i9,k9⟩ (Q9.mono (by decide)) b7 ⟨a7,i7,k7⟩ (Q7.mono (by decide)));have C37:=Cy l.prog w base F37 x37 X G (λ_ _ _ _ _ _=>us4 rfl λ_ _ _ _=>rfl) (show FnOk l.prog w K mg base CX0 13 f37 _ ["laid","takes","half","asks"] (Vd C 7) from ok_Told F37 T b8 ⟨a8,i8,k8⟩ (Q8.mono (by decide)) b11 ⟨a11,i11,k11⟩ (Q11.mono (by decide)) C36.up b12 ⟨a12,i12,k12⟩ (Q12.mono (by decide)) b37 (mg_of X G x37.a) 7);have C38:=Cy l.prog w base F38 x38 X G (λ_ _ _ _ _ _=>us2 rfl λ_ _=>rfl) (show FnOk l.prog w K mg base CX0 14 f38 _ ["history","asks"] T0 from ok_Half F38 T C35.up b4 Q4 C37.up);have C39:=Cy l.prog w base F39 x39 X G (λ_ _ _ _ _ _=>us3 rfl λ_ _ _=>rfl) (show FnOk l.prog w K mg base CX0 15 f39 _ ["_law_way","_law_history","_law_asks_here"] Gu from Ue F39 T C27.up C38.up);have C40:=Cy l.prog w base F40 x40 X G (λ_ _ _ _ _ _=>us2 rfl λ_ _=>rfl) (show FnOk l.prog w K mg base CX0 1 f40 _ ["_law_places_here","_law_told"] Hq from Sn F40 T);have C41:=Cy l.prog w base F41 x41 X G (λ_ _ _ _ _ _=>us4 rfl λ_ _ _ _=>rfl) (show FnOk l.prog w K mg base CX0 16 f41 _ ["_law_way","_law_history","_law_n","_law_places_here"] Ml from Xk F41 T C39.up C40.up);have C42:=Cy l.prog w base F42 x42 X G (λ_ _ _ _ _ _=>us2 rfl λ_ _=>rfl) (show FnOk l.prog w K mg base CX0 1 f42 _ ["_law_deeds_here","_law_k"] O5 from Zh F42 T)
 have C43:=Cy l.prog w base F43 x43 X G (λ_ _ _ _ _ _=>us3 rfl λ_ _ _=>rfl) (show FnOk l.prog w K mg base CX0 16 f43 _ ["_law_way","_law_history","_law_k"] Tp from ok_Step F43 T C42.up C39.up);exact ok_Law F44 T C28.up C31.up C30.up C29.up C34.up C41.up C43.up
theorem walk{l:PySem.W.OpenLaw}{q:Program}{loose:List Str}{XP:(Str->Option Value)->Heap->Prop}{YP:World->Heap->Prop}{d:DefRec}{K:Params->Frag}(hn:l.most=some 63)(hdf:d.params.defaults=[])(hY:∀(w:World) (h:Heap),YP w h->(K w.params).In h)(F:∀(w:World) (mg:Str->Option Value) (fa:Addr) (h:Heap),(K w.params).In h->h.Ns mainGlobals mg->mg d.name=some (.ref fa)->
   ∃fd:FuncData,(∀(s:Shared) (u:Value),BindsTo s fd ⟨[u],[]⟩ [("_law_script",u)])/\∀base:Heap,(K w.params).In base->base.Ns mainGlobals mg->FnOk l.prog w (K w.params) mg base CX0 17 fa fd ["_law_script"] (V3 (K w.params))):
  PySem.W.WalkO q loose XP YP l.row.toRowW d [] (λf vs=>PySem.call f vs):=
 L2.walk_of (n:=63) (k:=17) (x:="_law_script") (CX:=λ_=>CX0) (sp:=λw=>V3 (K w.params)) hn (by decide) hdf ⟨rfl,by decide,by decide,rfl⟩ hY F (λ_ _ a ns hl _ hS=>⟨a,ns,rfl,hS,hl,λ_=>rfl⟩) λ_ _ _ _ _ z=>z
end K29
namespace PySem.W.Fast
def tw1437689955192805135:=0
def tw8625993641753787715:=0
def tw468145717409479249:=0
def tw7287322649061484490:=0
def tw10072898202281020846:=0
def tw8424041181854064640:=0
def tw16524018405692473442:=0
def tw8961508126550115068:=0
def tw14434413596702024985:=0
def tw14559723350412430871:=0
def tw16418167007686980436:=0
def tw10630946851298650438:=0
def tw11820227337801384252:=0
def tw18380832738249311434:=0
def tw9662953707132896959:=0
def tw9568824743953957582:=0
def tw16940109079649277951:=0
def tw2637520366606662482:=0
def tw1787955860550495599:=0
def tw2675163516229219245:=0
def tw5523694514254502142:=0
def tw4412581349352245363:=0
def tw8718352429439682513:=0
def tw2289893654073292372:=0
def tw12970049746923402961:=0
def tw5834586365557071132:=0
def tw554426011051481184:=0
def tw763749413833371545:=0
def tw5613788526679541512:=0
def tw1173660086870233024:=0
def tw3666444674345714986:=0
def tw1812534512650532344:=0
def tw10397726877036241921:=0
def tw17991273760044674749:=0
def tw1341076552525624282:=0
def tw2089076959186706285:=0
def tw1144023120476289227:=0
def tw88570643775567945:=0
def tw18215167919536913363:=0
def tw14669837644982767765:=0
def tw12456023888117875046:=0
def tw18011705728004089998:=0
def tw15214635551355689315:=0
def tw9881414663277701301:=0
def tw6571178223896741180:=0
def tw6854136434962635997:=0
def tw10206944198388581777:=0
def tw2917669066952830784:=0
def tw17079685747297166840:=0
def tw14076917291098026722:=0
def tw8938056356019702778:=0
def tw17410708966917141297:=0
def tw12223662847591034694:=0
def tw6752506175952007931:=0
def tw14874338136085933690:=0
def tw5660486959602920394:=0
def tw1727450327803595643:=0
def tw16015041198225832920:=0
def tw14414786697851649144:=0
def tw16218175602901139474:=0
def tw13346268331939382664:=0
def tw14188301553082822143:=0
def tw4519929725048466286:=0
def tw1756925007064619009:=0
def tw260534043563500255:=0
def tw1456147971885575062:=0
def tw14799352180694014098:=0
def tw1263594523307596146:=0
def tw12547842363452746266:=0
def tw8357012453596460435:=0
def tw13065604286341977560:=0
def tw6402061959865657119:=0
def tw17264907094144501907:=0
def tw15469532047574473192:=0
def tw1342147881255482412:=0
def tw6283809276049679124:=0
def tw8008039653570266478:=0
def tw1729355941228637175:=0
def tw2975464704266742623:=0
def tw4472612110245209704:=0
def tw16574769264382265178:=0
def tw4110314537631251679:=0
def tw3804610397028502612:=0
def tw1299159321015048334:=0
def tw9381459225650565721:=0
def tw2607135297833362184:=0
def tw4336448091299705139:=0
def tw15060722629377176199:=0
def tw15282445964803658950:=0
def tw5481048488775668505:=0
def tw3985532179093453399:=0
def tw6470083680577836095:=0
def tw12073908267242931669:=0
def tw653061965936445972:=0
def tw18046720929809555392:=0
def tw18426162545420853636:=0
def tw2648652329191661205:=0
def tw12994445777089056739:=0
def tw13405451964314022926:=0
def tw4653679618287916936:=0
def tw8672723228881894287:=0
def tw8903314564963501178:=0
def tw6952136438056697457:=0
def tw10561722103952655841:=0
def tw15788642471091108765:=0
def tw1140456603864297035:=0
def tw2942055500150630509:=0
def tw6065661804691807396:=0
def tw7860770586362848983:=0
def tw2000338685946988428:=0
def tw7079968509637912716:=0
def tw2195869164366203774:=0
def tw1065410087963670480:=0
def tw13820721411222874577:=0
def tw17948386282944649252:=0
def tw10103909207567384331:=0
def tw6848647770867559267:=0
def tw12523986123767465771:=0
def tw13015576384396803749:=0
def tw14764886724709690490:=0
def tw13318380887057726261:=0
def tw4976959247621058665:=0
def tw11778298668388190510:=0
def tw17426723835515899513:=0
def tw16240002355435012505:=0
def tw14769586583662123811:=0
def tw11540097475262203615:=0
def tw7384575162908038439:=0
def tw9013873647812677710:=0
def tw423553901135677436:=0
def tw8365876785301584217:=0
def tw9114302163752548511:=0
def tw2439591027030092040:=0
def tw13232470995615881027:=0
def tw1060432250313538597:=0
def tw6754364411456014860:=0
def tw14566022165371171991:=0
def tw2294395966753371871:=0
def tw13586354518027876345:=0
def tw8586622098288767203:=0
def tw2608410517664613723:=0
def tw14685742234073637877:=0
def tw9265183513632311201:=0
def tw10429514737129011196:=0
def tw11942886241363910282:=0
def tw12046889005197425447:=0
def tw3407101827109487154:=0
def tw3416409064426602268:=0
def tw9272166178647866396:=0
def tw16925467517689839147:=0
def tw4689098685034982746:=0
def tw194327254780164318:=0
def tw6774071415288600846:=0
def tw5120469164443082102:=0
def tw1418379430945031173:=0
def tw15652152150510460046:=0
def tw18223865784149995906:=0
def tw11713837468687917561:=0
def tw7264822993078956287:=0
def tw11867991057057758074:=0
def tw11490066175226971024:=0
def tw8409895155533369198:=0
def tw4136271593048426043:=0
def tw18394797645551359251:=0
def tw1449788923923278630:=0
def tw1871121111665598100:=0
def tw12063992972563649768:=0
def tw7103775080224104923:=0
def tw694514714933955634:=0
def tw4330828975825144520:=0
def tw16200369262143763075:=0
def tw13866756086921399057:=0
def tw16909508671171890505:=0
def tw14195821114223009877:=0
def tw5976540549761755783:=0
def tw5651852503917831259:=0
def tw5138989841183830084:=0
def tw3856776631021669070:=0
def tw1017599249086880600:=0
def tw10040408791233830677:=0
def tw10800313305107623873:=0
def tw10737133189922797088:=0
def tw17298711377642518452:=0
def tw907213558556891188:=0
def tw10014068318686415225:=0
def tw8769450032552225234:=0
def tw7532123340408833267:=0
def tw18360335854313603035:=0
def tw15077311406411222484:=0
def tw14817176000662621896:=0
def tw18070416427811388116:=0
def tw14014131469176394824:=0
def tw5438062996524616218:=0
def tw16336240150011732163:=0
def tw15294810941575426397:=0
def tw11017644270668120322:=0
def tw2379514744488670722:=0
end PySem.W.Fast
open PySem PySem.W PyProof.Rows
set_option maxRecDepth 100000 in
set_option maxHeartbeats 0 in
theorem PySem.Challenge.cw_joinedever_k29_whole_answers_among_thems_holds : PySem.Challenge.rw_joinedever_k29_whole_answers_among_thems.Holds := by
 w_on;o_law;k_head;(case hw=>w_witness2)
 k_fill
 refine K29.walk (l:=PySem.Challenge.rw_joinedever_k29_whole_answers_among_thems) rfl rfl (fun w h Y=>PySem.W.kIn_of Y) ?F
 case F=>
  intro w mg fa h KX G hmg
  refine' K29.all_mk KX G hmg ?aC (.of ?a0 ?l0 ?c0 ?k0) (.of ?a1 ?l1 ?c1 ?k1) (.of ?a2 ?l2 ?c2 ?k2) (.of ?a3 ?l3 ?c3 ?k3) ?a4 ?i4 ?l4 ?c4 ?k4 ?a5 ?i5 ?l5 ?c5 ?k5 ?a6 ?i6 ?l6 ?c6 ?k6 ?a7 ?i7 ?l7 ?c7 ?k7 ?a8 ?i8 ?l8 ?c8 ?k8 ?a9 ?i9 ?l9 ?c9 ?k9 ?a10 ?i10 ?l10 ?c10 ?k10 ?a11 ?i11 ?l11 ?c11 ?k11 ?a12 ?i12 ?l12 ?c12 ?k12 (.of ?a13 ?l13 ?c13 ?k13) (.of ?a14 ?l14 ?c14 ?k14) (.of ?a15 ?l15 ?c15 ?k15) (.of ?a16 ?l16 ?c16 ?k16) (.of ?a17 ?l17 ?c17 ?k17) (.of ?a18 ?l18 ?c18 ?k18) (.of ?a19 ?l19 ?c19 ?k19) (.of ?a20 ?l20 ?c20 ?k20) (.of ?a21 ?l21 ?c21 ?k21) (.of ?a22 ?l22 ?c22 ?k22) (.of ?a23 ?l23 ?c23 ?k23) (.of ?a24 ?l24 ?c24 ?k24) (.of ?a25 ?l25 ?c25 ?k25) (.of ?a26 ?l26 ?c26 ?k26) (.of ?a27 ?l27 ?c27 ?k27) (.of ?a28 ?l28 ?c28 ?k28) (.of ?a29 ?l29 ?c29 ?k29) (.of ?a30 ?l30 ?c30 ?k30) (.of ?a31 ?l31 ?c31 ?k31) (.of ?a32 ?l32 ?c32 ?k32) (.of ?a33 ?l33 ?c33 ?k33) (.of ?a34 ?l34 ?c34 ?k34) (.of ?a35 ?l35 ?c35 ?k35) (.of ?a36 ?l36 ?c36 ?k36) (.of ?a37 ?l37 ?c37 ?k37) (.of ?a38 ?l38 ?c38 ?k38) (.of ?a39 ?l39 ?c39 ?k39) (.of ?a40 ?l40 ?c40 ?k40) (.of ?a41 ?l41 ?c41 ?k41) (.of ?a42 ?l42 ?c42 ?k42) (.of ?a43 ?l43 ?c43 ?k43) (.of ?a44 ?l44 ?c44 ?k44) ?pg ?hd ?po ?sa ?mk ?kc ?n0 ?z0 ?z1 ?z2 ?z3 ?z4 ?z5 ?z6 ?z7 ?z8 ?z9 ?z10 ?z11 ?z12 ?z13
  (case aC|a0|l0|c0|k0|a1|l1|c1|k1|a2|l2|c2|k2|a3|l3|c3|k3|a4|i4|l4|c4|k4|a5|i5|l5|c5|k5|a6|i6|l6|c6|k6|a7|i7|l7|c7|k7|a8|i8|l8|c8|k8|a9|i9|l9|c9|k9|a10|i10|l10|c10|k10|a11|i11|l11|c11|k11|a12|i12|l12|c12|k12|a13|l13|c13|k13|a14|l14|c14|k14|a15|l15|c15|k15|a16|l16|c16|k16|a17|l17|c17|k17|a18|l18|c18|k18|a19|l19|c19|k19|a20|l20|c20|k20|a21|l21|c21|k21|a22|l22|c22|k22|a23|l23|c23|k23|a24|l24|c24|k24|a25|l25|c25|k25|a26|l26|c26|k26|a27|l27|c27|k27|a28|l28|c28|k28|a29|l29|c29|k29|a30|l30|c30|k30|a31|l31|c31|k31|a32|l32|c32|k32|a33|l33|c33|k33|a34|l34|c34|k34|a35|l35|c35|k35|a36|l36|c36|k36|a37|l37|c37|k37|a38|l38|c38|k38|a39|l39|c39|k39|a40|l40|c40|k40|a41|l41|c41|k41|a42|l42|c42|k42|a43|l43|c43|k43|a44|l44|c44|k44|pg|hd|po|sa|mk|kc|n0|z0|z1|z2|z3|z4|z5|z6|z7|z8|z9|z10|z11|z12|z13=>k_is)
